/- The document's Div and Cmp of numbers with a point, behind the functions of RefFix8V. -/
import Derived.Test.YtmmlekgojblopaaZzRefE
import Derived.Test.YtmmlekgojblopaaZzFixC
import Derived.Test.YtmmlekgojblopaaZzRefD
namespace Go.Proofs.Ytmmlekgojblopaa
open Go.RowKit
set_option maxRecDepth 20000 in
theorem rdivf_any (x y : Int) (hx : My x) (hy : My y) (hne : y ≠ 0) (w : World) :
    Calls Try.prog 17 #[.agg #[.int .i64 (fh x), .int .u64 (fl x)], .agg #[.int .i64 (fh y), .int .u64 (fl y)]] w fun e w' => e = .returned (.agg #[.int .i64 (fh (ov (divr x y))), .int .u64 (fl (ov (divr x y))), .int .i64 (oe (divr x y))]) ∧ Below w.heap.size w w' := by
  have ax := abs_lt hx; have ay := abs_lt hy
  have z : Wd 0 := ⟨by omega, by omega⟩
  have C1 := rmag_any x hx; have C3 := rmag_any y hy
  have C2 := rshl_any 0 0 _ _ 65 z z (wd_wd x.natAbs 1) (wd_wd x.natAbs 0) (by decide)
  rw [v4_lower, v2_wd, Nat.mod_eq_of_lt (show x.natAbs < 340282366920938463463374607431768211456 by omega), pow_65] at C2
  have e : divr x y = sg (!(decide (x < 0) == decide (y < 0))) (((x.natAbs * 36893488147419103232 + y.natAbs) / (2 * y.natAbs) : Nat) : Int) := rfl
  have q : ∀ W, (Go.binOp .eql 24 (.agg #[.int .i64 (fh y), .int .u64 (fl y)]) (.agg #[.int .i64 0, .int .u64 0])).run Try.prog W = .ok (.bool false) W := fun W => by
    rw [eq_fix, decide_eq_false]
    intro h
    exact hne (fx_ext h.1 h.2)
  have hy0 : y.natAbs ≠ 0 := by omega
  rw [e]
  have hE : x.natAbs * 36893488147419103232 < 6277101735386680763835789423207666416102355444464034512896 := by omega
  have hx' := neg_word x; have hy' := neg_word y
  generalize decide (x < 0) = p at *
  generalize decide (y < 0) = r at *
  generalize x.natAbs * 36893488147419103232 = E at *
  generalize y.natAbs = D at *
  have C4 := addTwo_any _ _ _ _ (wd_wd E 1) (wd_wd E 0) (wd_wd D 1) (wd_wd D 0)
  rw [v2_wd, v2_wd, Nat.mod_eq_of_lt (show D < 340282366920938463463374607431768211456 by omega), add_low E _ (by omega) 1 (by decide), add_low E _ (by omega) 0 (by decide)] at C4
  have C6 := addTwo_any _ _ _ _ (wd_wd D 1) (wd_wd D 0) (wd_wd D 1) (wd_wd D 0)
  rw [v2_wd, Nat.mod_eq_of_lt (show D < 340282366920938463463374607431768211456 by omega)] at C6
  have hb : E + D < 115792089237316195423570985008687907853269984665640564039457584007913129639936 := by omega
  have hv : v2 (wd (D + D) 1) (wd (D + D) 0) = 2 * D := by rw [v2_wd, Nat.mod_eq_of_lt (by omega)]; omega
  have C7 := rdiv_any _ _ _ _ _ _ (wd_wd (E + D) 3) (wd_wd (E + D) 2) (wd_wd (E + D) 1) (wd_wd (E + D) 0) (wd_wd (D + D) 1) (wd_wd (D + D) 0) (by rw [hv]; omega)
  rw [hv, v4_of hb] at C7
  have hq : (E + D) / (2 * D) < 115792089237316195423570985008687907853269984665640564039457584007913129639936 := Nat.lt_of_le_of_lt (Nat.div_le_self _ _) hb
  have C8 := rsigned_any (!(p == r)) ((E + D) / (2 * D)) hq
  by_cases c : 340282366920938463463374607431768211456 ≤ E % 340282366920938463463374607431768211456 + D
  · rw [decide_eq_true c] at C4
    have hi := add_high E _ c (by omega)
    have C5 := addTwo_any _ _ 0 1 (wd_wd E 3) (wd_wd E 2) z ⟨by omega, by omega⟩
    rw [v2_wd23, show v2 0 1 = 1 from rfl, hi.1, hi.2] at C5
    exact rdivf_true _ _ _ _ _ _ _ _ _ _ _ _ _ _ _ _ _ _ _ _ _ _ _ _ _ _ _ _ _ _ _ _ hx' hy' q w C1 C2 C3 C4 C5 C6 C7 C8
  · rw [decide_eq_false c] at C4
    have hs := add_same E _ c
    rw [hs.1, hs.2] at C2
    exact rdivf_false _ _ _ _ _ _ _ _ _ _ _ _ _ _ _ _ _ _ _ _ _ _ _ _ _ _ _ _ _ hx' hy' q w C1 C2 C3 C4 C6 C7 C8
theorem rfcmp_any (x y : Int) (w : World) :
    Calls Try.prog 18 #[.agg #[.int .i64 (fh x), .int .u64 (fl x)], .agg #[.int .i64 (fh y), .int .u64 (fl y)]] w fun e w' => e = .returned (.int .i64 (icmp x y)) ∧ Below w.heap.size w w' := by
  have lx := fl_wd x; have ly := fl_wd y
  by_cases c : x < y
  · rw [show icmp x y = -1 by unfold icmp; rw [if_pos c]]
    by_cases h : fh x < fh y
    · exact rfcmp_lt _ _ _ _ h w
    · have e : fh x = fh y := by unfold fh at *; omega
      exact rfcmp_eqlt _ _ _ _ h (by rw [beq_iff_eq]; exact e) (by unfold fh fl at *; omega) w
  · have h : ¬ fh x < fh y := by unfold fh at *; omega
    by_cases d : x = y
    · subst d
      rw [show icmp x x = 0 by unfold icmp; simp]
      exact rfcmp_same _ _ _ _ h (by omega) (by simp) (eq_fix_true _ _) w
    · rw [show icmp x y = 1 by unfold icmp; rw [if_neg c, if_pos (by omega)]]
      have q : ∀ W, (Go.binOp .eql 24 (.agg #[.int .i64 (fh x), .int .u64 (fl x)]) (.agg #[.int .i64 (fh y), .int .u64 (fl y)])).run Try.prog W = .ok (.bool false) W := fun W => by
        rw [eq_fix, decide_eq_false]
        intro g
        exact d (fx_ext g.1 g.2)
      by_cases g : fh x = fh y
      · exact rfcmp_eqgt _ _ _ _ h (by rw [beq_iff_eq]; exact g) (by unfold fh fl at *; omega) q w
      · exact rfcmp_gt _ _ _ _ h (by rw [beq_eq_false_iff_ne]; exact g) q w
end Go.Proofs.Ytmmlekgojblopaa
