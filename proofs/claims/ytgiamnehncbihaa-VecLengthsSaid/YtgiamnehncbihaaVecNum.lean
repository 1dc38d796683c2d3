/- Whole numbers and signs: what steps on them come to. -/
import Derived.Test.YtgiamnehncbihaaVecAny
namespace Go.Proofs.Ytgiamnehncbihaa
open Go.RowKit
theorem sg_mul2 (a b : Int) : sg (decide (a < 0) != decide (b < 0)) ((a.natAbs * b.natAbs : Nat) : Int) = a * b := by
  have e := Int.natAbs_mul a b
  rw [← e]
  by_cases ha : a < 0 <;> by_cases hb : b < 0
  · have := Int.mul_nonneg_of_nonpos_of_nonpos (Int.le_of_lt ha) (Int.le_of_lt hb)
    simp [ha, hb, sg]; omega
  · have := Int.mul_nonpos_of_nonpos_of_nonneg (Int.le_of_lt ha) (show 0 ≤ b by omega)
    simp [ha, hb, sg]; omega
  · have := Int.mul_nonpos_of_nonneg_of_nonpos (show 0 ≤ a by omega) (Int.le_of_lt hb)
    simp [ha, hb, sg]; omega
  · have := Int.mul_nonneg (show 0 ≤ a by omega) (show 0 ≤ b by omega)
    simp [ha, hb, sg]; omega
theorem sign_int2 (a : Int) : decide (a * 18446744073709551616 < 0) = decide (a < 0) := by rw [decide_eq_decide]; omega
theorem mulr_int2 (a b : Int) : mulr (a * 18446744073709551616) (b * 18446744073709551616) = a * b * 18446744073709551616 := by
  unfold mulr
  have h : ((a * 18446744073709551616).natAbs * (b * 18446744073709551616).natAbs + 9223372036854775808) / 18446744073709551616 = a.natAbs * b.natAbs * 18446744073709551616 := by
    rw [Int.natAbs_mul, Int.natAbs_mul, show (18446744073709551616 : Int).natAbs = 18446744073709551616 from rfl, Nat.mul_mul_mul_comm, ← Nat.mul_assoc]
    generalize a.natAbs * b.natAbs = n
    omega
  rw [h, sign_int2, sign_int2]
  have := sg_mul2 a b
  generalize a.natAbs * b.natAbs = n at *
  rw [← this]; unfold sg; split <;> simp <;> omega
theorem prod_bound {a b : Int} {A B : Nat} (ha : a.natAbs ≤ A) (hb : b.natAbs ≤ B) : (a * b).natAbs ≤ A * B := by rw [Int.natAbs_mul]; exact Nat.mul_le_mul ha hb
theorem int_small {n : Int} (h : -9223372036854775807 ≤ n) : intr n = n * 18446744073709551616 := by unfold intr; rw [if_neg (by omega)]
theorem my_small {n : Int} (h : n.natAbs ≤ 4294967296) : My (n * 18446744073709551616) := by unfold My; omega
/-- A whole number, and a pair of them: what Scale, Add, Dot come to. -/
theorem scale_small {x y k : Int} (hx : (x * k).natAbs ≤ 4294967296) (hy : (y * k).natAbs ≤ 4294967296) : ve (mulr (x * 18446744073709551616) (k * 18446744073709551616)) (mulr (y * 18446744073709551616) (k * 18446744073709551616)) = 0 ∧ vx (mulr (x * 18446744073709551616) (k * 18446744073709551616)) (mulr (y * 18446744073709551616) (k * 18446744073709551616)) = x * k * 18446744073709551616 ∧ vy (mulr (x * 18446744073709551616) (k * 18446744073709551616)) (mulr (y * 18446744073709551616) (k * 18446744073709551616)) = y * k * 18446744073709551616 := by
  rw [mulr_int2, mulr_int2]
  exact ve_in (oe_in (my_small hx)) (oe_in (my_small hy))
theorem mulr_turn (x y : Int) : mulr (-x) y = -mulr x y ∧ mulr x (-y) = -mulr x y := by
  have sgn : ∀ (b : Bool) (n : Int), sg (!b) n = -sg b n := by intro b n; cases b <;> simp [sg]
  have hz : ∀ z : Int, mulr 0 z = 0 ∧ mulr z 0 = 0 := fun z => by
    have h : ((0 : Nat) + 9223372036854775808) / 18446744073709551616 = 0 := by decide
    constructor
    · unfold mulr sg; rw [Int.natAbs_zero, Nat.zero_mul, h]; split <;> rfl
    · unfold mulr sg; rw [Int.natAbs_zero, Nat.mul_zero, h]; split <;> rfl
  constructor
  · by_cases c : x = 0
    · subst c; rw [Int.neg_zero, (hz y).1]; rfl
    · unfold mulr; rw [Int.natAbs_neg, ← sgn]
      congr 1
      by_cases d : x < 0
      · rw [decide_eq_true d, decide_eq_false (show ¬ -x < 0 by omega)]; cases decide (y < 0) <;> rfl
      · rw [decide_eq_false d, decide_eq_true (show -x < 0 by omega)]; cases decide (y < 0) <;> rfl
  · by_cases c : y = 0
    · subst c; rw [Int.neg_zero, (hz x).2]; rfl
    · unfold mulr; rw [Int.natAbs_neg, ← sgn]
      congr 1
      by_cases d : y < 0
      · rw [decide_eq_true d, decide_eq_false (show ¬ -y < 0 by omega)]; cases decide (x < 0) <;> rfl
      · rw [decide_eq_false d, decide_eq_true (show -y < 0 by omega)]; cases decide (x < 0) <;> rfl
theorem mulr_comm (x y : Int) : mulr x y = mulr y x := by
  have e : (decide (x < 0) != decide (y < 0)) = (decide (y < 0) != decide (x < 0)) := by cases decide (x < 0) <;> cases decide (y < 0) <;> rfl
  unfold mulr; rw [Nat.mul_comm, e]
theorem my_neg_iff (x : Int) : My (-x) ↔ My x := by unfold My; omega
theorem oe_neg (x : Int) : oe (-x) = oe x := by
  by_cases h : My x
  · rw [oe_in h, oe_in ((my_neg_iff x).2 h)]
  · rw [oe_out h, oe_out (fun g => h ((my_neg_iff x).1 g))]
theorem ve_neg (p q : Int) : ve (-p) (-q) = ve p q ∧ vx (-p) (-q) = -vx p q ∧ vy (-p) (-q) = -vy p q := by
  have e : ve (-p) (-q) = ve p q := by unfold ve; rw [oe_neg, oe_neg]
  refine ⟨e, ?_, ?_⟩
  · unfold vx; rw [e]; split <;> simp
  · unfold vy; rw [e]; split <;> simp
theorem de_neg (p q : Int) : de (-p) (-q) = de p q ∧ dv (-p) (-q) = -dv p q := by
  have e : de (-p) (-q) = de p q := by unfold de; rw [oe_neg, oe_neg, ← Int.neg_add, oe_neg]
  refine ⟨e, ?_⟩
  unfold dv; rw [e]; split
  · omega
  · rfl
theorem vx_My (p q : Int) : My (vx p q) := by
  unfold vx
  split
  · rename_i h
    unfold ve at h
    split at h
    · rename_i g; exact oe_my g
    · rename_i g; exact absurd h g
  · exact ⟨by decide, by decide⟩
theorem vy_My (p q : Int) : My (vy p q) := by
  unfold vy
  split
  · rename_i h
    unfold ve at h
    split at h
    · exact oe_my h
    · rename_i g; exact absurd h g
  · exact ⟨by decide, by decide⟩
theorem my_neg2 {x : Int} (h : My x) : My (-x) := (my_neg_iff x).2 h
theorem mulr_nn (x : Int) : mulr (-x) (-x) = mulr x x := by rw [(mulr_turn x (-x)).1, (mulr_turn x x).2]; omega
end Go.Proofs.Ytgiamnehncbihaa
