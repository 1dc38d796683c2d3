/- The document's Div and Cmp of numbers with a point, behind the functions of RefFix8V. -/
import Derived.Test.YtjilnmpajhifcaaZzRefE
import Derived.Test.YtjilnmpajhifcaaZzFixC
import Derived.Test.YtjilnmpajhifcaaZzRefD
namespace Go.Proofs.Ytjilnmpajhifcaa
open Go.RowKit
theorem rfcmp_any (x y : Int) (w : World) :
    Calls Try.prog 8 #[.agg #[.int .i64 (fh x), .int .u64 (fl x)], .agg #[.int .i64 (fh y), .int .u64 (fl y)]] w fun e w' => e = .returned (.int .i64 (icmp x y)) ∧ Below w.heap.size w w' := by
  have lx := fl_wd x; have ly := fl_wd y
  by_cases c : x < y
  · rw [show icmp x y = -1 by unfold icmp; rw [if_pos c]]
    by_cases h : fh x < fh y
    · exact rfcmp_lt _ _ _ _ h w
    · have e : fh x = fh y := by unfold fh at *; omega
      exact rfcmp_eqlt _ _ _ _ h (by rw [beq_iff_eq]; exact e) (by unfold fh fl at *; omega) w
  · have h : ¬ fh x < fh y := by unfold fh at *; omega
    by_cases d : x = y
    · subst d
      rw [show icmp x x = 0 by unfold icmp; simp]
      exact rfcmp_same _ _ _ _ h (by omega) (by simp) (eq_fix_true _ _) w
    · rw [show icmp x y = 1 by unfold icmp; rw [if_neg c, if_pos (by omega)]]
      have q : ∀ W, (Go.binOp .eql 28 (.agg #[.int .i64 (fh x), .int .u64 (fl x)]) (.agg #[.int .i64 (fh y), .int .u64 (fl y)])).run Try.prog W = .ok (.bool false) W := fun W => by
        rw [eq_fix, decide_eq_false]
        intro g
        exact d (fx_ext g.1 g.2)
      by_cases g : fh x = fh y
      · exact rfcmp_eqgt _ _ _ _ h (by rw [beq_iff_eq]; exact g) (by unfold fh fl at *; omega) q w
      · exact rfcmp_gt _ _ _ _ h (by rw [beq_eq_false_iff_ne]; exact g) q w
end Go.Proofs.Ytjilnmpajhifcaa
