/- What each call of package fix comes to, by whole numbers: sums, order. -/
import Derived.Test.YtgiamnehncbihaaFixAdd
import Derived.Test.YtgiamnehncbihaaFixSub
import Derived.Test.YtgiamnehncbihaaFixMul
namespace Go.Proofs.Ytgiamnehncbihaa
open Go.RowKit

theorem sw_and (a b : Bool) : bits .and .u64 (sw a) (sw b) = sw (a && b) := by
  cases a <;> cases b <;> decide
theorem sw_ne {s : Bool} (h : s = true) : sw s ≠ 0 := by subst h; decide
theorem sw_eq {s : Bool} (h : ¬ s = true) : sw s = 0 := by cases s; rfl; exact absurd rfl h
/-- The sum's bits, read as a number. -/
def bmod (n : Int) : Int := (n + 170141183460469231731687303715884105728) % 340282366920938463463374607431768211456 - 170141183460469231731687303715884105728
theorem bmod_Fx (n : Int) : Fx (bmod n) := by unfold bmod; constructor <;> omega
theorem fadd_any (x y : Int) (hx : My x) (hy : My y) (w : World) :
    Calls Try.prog 56 #[.agg #[.int .i64 (fh x), .int .u64 (fl x)], .agg #[.int .i64 (fh y), .int .u64 (fl y)]] w fun e w' => e = .returned (.tuple #[.agg #[.int .i64 (fh (ov (x + y))), .int .u64 (fl (ov (x + y)))], .int .i64 (oe (x + y))]) ∧ Below w.heap.size w w' := by
  have C3 := add_any _ _ _ _ (wd_wd (ub x) 1) (wd_wd (ub x) 0) (wd_wd (ub y) 1) (wd_wd (ub y) 0)
  rw [ub_v2, ub_v2] at C3
  have C4 := ofBits_any (bmod (x + y)) (ub x + ub y) (bmod_Fx _) (by unfold bmod ub; omega)
  have C7 := sign_any (bmod (x + y)) (bmod_Fx _)
  have C8 := may_any (bmod (x + y))
  have hz : (bmod (x + y) = x + y ∧ My (x + y)) ∨ (¬ My (x + y) ∧ (bmod (x + y) = -170141183460469231731687303715884105728 ∨ (x < 0 ∧ y < 0 ∧ 0 ≤ bmod (x + y)) ∨ (0 ≤ x ∧ 0 ≤ y ∧ bmod (x + y) < 0))) := by
    obtain ⟨_, _⟩ := hx; obtain ⟨_, _⟩ := hy
    unfold bmod My; omega
  have hnot : My (x + y) → ¬ (x < 0 ∧ y < 0 ∧ 0 ≤ x + y) ∧ ¬ (0 ≤ x ∧ 0 ≤ y ∧ x + y < 0) := fun _ => by omega
  generalize bmod (x + y) = z at *
  by_cases c : ((decide (x < 0) != decide (z < 0)) && (decide (y < 0) != decide (z < 0))) = true
  · have hb : ¬ My (x + y) := by
      intro hm
      rcases hz with ⟨h1, _⟩ | ⟨h1, _⟩
      · have := hnot hm
        subst h1
        simp at c
        omega
      · exact h1 hm
    rw [ov_out hb, oe_out hb, fh_zero, fl_zero]
    exact fadd_over _ _ _ _ _ _ _ _ _ _ _ _ _ _ _ _ _ _ _ (sw_xor _ _) (sw_xor _ _) (sw_and _ _) (sw_ne c) w (bits_any x) (bits_any y) C3 C4 (sign_any x hx.fx) (sign_any y hy.fx) C7
  · by_cases d : z = -170141183460469231731687303715884105728
    · have hb : ¬ My (x + y) := by
        intro hm
        rcases hz with ⟨h1, h2⟩ | ⟨h1, _⟩
        · obtain ⟨_, _⟩ := h2; omega
        · exact h1 hm
      rw [ov_out hb, oe_out hb, fh_zero, fl_zero]
      rw [decide_eq_false (by simpa using d)] at C8
      exact fadd_least _ _ _ _ _ _ _ _ _ _ _ _ _ _ _ _ _ _ _ (sw_xor _ _) (sw_xor _ _) (sw_and _ _) (sw_eq c) w (bits_any x) (bits_any y) C3 C4 (sign_any x hx.fx) (sign_any y hy.fx) C7 C8
    · have hm : z = x + y ∧ My (x + y) := by
        rcases hz with h | ⟨h1, h2⟩
        · exact h
        · simp at c
          omega
      rw [ov_in hm.2, oe_in hm.2, ← hm.1]
      rw [decide_eq_true d] at C8
      exact fadd_ok _ _ _ _ _ _ _ _ _ _ _ _ _ _ _ _ _ _ _ (sw_xor _ _) (sw_xor _ _) (sw_and _ _) (sw_eq c) w (bits_any x) (bits_any y) C3 C4 (sign_any x hx.fx) (sign_any y hy.fx) C7 C8
theorem fsub_any (x y : Int) (hx : My x) (hy : My y) (w : World) :
    Calls Try.prog 57 #[.agg #[.int .i64 (fh x), .int .u64 (fl x)], .agg #[.int .i64 (fh y), .int .u64 (fl y)]] w fun e w' => e = .returned (.tuple #[.agg #[.int .i64 (fh (ov (x - y))), .int .u64 (fl (ov (x - y)))], .int .i64 (oe (x - y))]) ∧ Below w.heap.size w w' := by
  have C3 := sub_any _ _ _ _ (wd_wd (ub x) 1) (wd_wd (ub x) 0) (wd_wd (ub y) 1) (wd_wd (ub y) 0)
  rw [ub_v2, ub_v2] at C3
  have C4 := ofBits_any (bmod (x - y)) (ub x + (340282366920938463463374607431768211456 - ub y)) (bmod_Fx _) (by unfold bmod ub; omega)
  have C7 := sign_any (bmod (x - y)) (bmod_Fx _)
  have C8 := may_any (bmod (x - y))
  have hz : (bmod (x - y) = x - y ∧ My (x - y)) ∨ (¬ My (x - y) ∧ (bmod (x - y) = -170141183460469231731687303715884105728 ∨ (x < 0 ∧ 0 ≤ y ∧ 0 ≤ bmod (x - y)) ∨ (0 ≤ x ∧ y < 0 ∧ bmod (x - y) < 0))) := by
    obtain ⟨_, _⟩ := hx; obtain ⟨_, _⟩ := hy
    unfold bmod My; omega
  have hnot : My (x - y) → ¬ (x < 0 ∧ 0 ≤ y ∧ 0 ≤ x - y) ∧ ¬ (0 ≤ x ∧ y < 0 ∧ x - y < 0) := fun _ => by omega
  generalize bmod (x - y) = z at *
  by_cases c : ((decide (x < 0) != decide (y < 0)) && (decide (x < 0) != decide (z < 0))) = true
  · have hb : ¬ My (x - y) := by
      intro hm
      rcases hz with ⟨h1, _⟩ | ⟨h1, _⟩
      · have := hnot hm
        subst h1
        simp at c
        omega
      · exact h1 hm
    rw [ov_out hb, oe_out hb, fh_zero, fl_zero]
    exact fsub_over _ _ _ _ _ _ _ _ _ _ _ _ _ _ _ _ _ _ _ (sw_xor _ _) (sw_xor _ _) (sw_and _ _) (sw_ne c) w (bits_any x) (bits_any y) C3 C4 (sign_any x hx.fx) (sign_any y hy.fx) C7
  · by_cases d : z = -170141183460469231731687303715884105728
    · have hb : ¬ My (x - y) := by
        intro hm
        rcases hz with ⟨h1, h2⟩ | ⟨h1, _⟩
        · obtain ⟨_, _⟩ := h2; omega
        · exact h1 hm
      rw [ov_out hb, oe_out hb, fh_zero, fl_zero]
      rw [decide_eq_false (by simpa using d)] at C8
      exact fsub_least _ _ _ _ _ _ _ _ _ _ _ _ _ _ _ _ _ _ _ (sw_xor _ _) (sw_xor _ _) (sw_and _ _) (sw_eq c) w (bits_any x) (bits_any y) C3 C4 (sign_any x hx.fx) (sign_any y hy.fx) C7 C8
    · have hm : z = x - y ∧ My (x - y) := by
        rcases hz with h | ⟨h1, h2⟩
        · exact h
        · simp at c
          omega
      rw [ov_in hm.2, oe_in hm.2, ← hm.1]
      rw [decide_eq_true d] at C8
      exact fsub_ok _ _ _ _ _ _ _ _ _ _ _ _ _ _ _ _ _ _ _ (sw_xor _ _) (sw_xor _ _) (sw_and _ _) (sw_eq c) w (bits_any x) (bits_any y) C3 C4 (sign_any x hx.fx) (sign_any y hy.fx) C7 C8
theorem icmp_fix (x y : Int) : orI (icmp (fh x) (fh y)) (icmp (fl x) (fl y)) = icmp x y := by
  unfold orI icmp fh fl
  repeat' split
  all_goals omega
theorem fcmp_any (x y : Int) (w : World) :
    Calls Try.prog 49 #[.agg #[.int .i64 (fh x), .int .u64 (fl x)], .agg #[.int .i64 (fh y), .int .u64 (fl y)]] w fun e w' => e = .returned (.int .i64 (icmp x y)) ∧ Below w.heap.size w w' := by
  rw [← icmp_fix]; exact fcmp_core _ _ _ _ w
end Go.Proofs.Ytgiamnehncbihaa
