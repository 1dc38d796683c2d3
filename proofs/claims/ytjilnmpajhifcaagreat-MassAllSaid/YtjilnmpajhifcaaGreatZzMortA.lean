/- Package morton: cells, keys of places; the document's; awake. -/
import Derived.Test.YtjilnmpajhifcaaGreatZzLimA
import Derived.Laws.BitsLemmas
import Derived.Laws.Bits64
import Derived.Laws.Bits64b
import Derived.Test.YtjilnmpajhifcaaGreatZzFixA
import Derived.Test.YtjilnmpajhifcaaGreatZzVecA
import Derived.Test.YtjilnmpajhifcaaGreatZzLimC
import Derived.Test.YtjilnmpajhifcaaGreatZzRefA
namespace Go.Proofs.YtjilnmpajhifcaaGreat
/-- The key of the lowest k bits of two numbers. -/
def mk2 : Nat → Nat → Nat → Nat
  | 0, _, _ => 0
  | k + 1, x, y => x % 2 + 2 * (y % 2) + 4 * mk2 k (x / 2) (y / 2)
/-- Each second bit of a number, k of them. -/
def ev : Nat → Nat → Nat
  | 0, _ => 0
  | k + 1, n => n % 2 + 2 * ev k (n / 4)
theorem mk2_lt : ∀ (k x y : Nat), mk2 k x y < 4 ^ k := by
  intro k
  induction k with
  | zero => intro x y; exact Nat.one_pos
  | succ k ih =>
    intro x y
    have h := ih (x / 2) (y / 2)
    show x % 2 + 2 * (y % 2) + 4 * mk2 k (x / 2) (y / 2) < 4 ^ (k + 1)
    rw [Nat.pow_succ]; omega
/-- One bit more, at the upper end. -/
theorem mk2_top : ∀ (k x y : Nat), mk2 (k + 1) x y = mk2 k x y + (x / 2 ^ k % 2 + 2 * (y / 2 ^ k % 2)) * 4 ^ k := by
  intro k
  induction k with
  | zero => intro x y; simp [mk2]
  | succ k ih =>
    intro x y
    have h := ih (x / 2) (y / 2)
    show x % 2 + 2 * (y % 2) + 4 * mk2 (k + 1) (x / 2) (y / 2) = x % 2 + 2 * (y % 2) + 4 * mk2 k (x / 2) (y / 2) + _
    rw [h, Nat.pow_succ 4 k, Nat.pow_succ 2 k, Nat.mul_comm (2 ^ k) 2, ← Nat.div_div_eq_div_mul, ← Nat.div_div_eq_div_mul]
    generalize (x / 2 / 2 ^ k % 2 + 2 * (y / 2 / 2 ^ k % 2)) = b
    rw [← Nat.mul_assoc b, Nat.mul_comm (b * 4 ^ k) 4]; omega
theorem ev_mk2 : ∀ (k x y : Nat), ev k (mk2 k x y) = x % 2 ^ k ∧ ev k (mk2 k x y / 2) = y % 2 ^ k := by
  intro k
  induction k with
  | zero => intro x y; simp [ev, Nat.mod_one]
  | succ k ih =>
    intro x y
    obtain ⟨h1, h2⟩ := ih (x / 2) (y / 2)
    have e1 : mk2 (k + 1) x y / 4 = mk2 k (x / 2) (y / 2) := by
      show (x % 2 + 2 * (y % 2) + 4 * mk2 k (x / 2) (y / 2)) / 4 = _; omega
    have e2 : mk2 (k + 1) x y / 2 / 4 = mk2 k (x / 2) (y / 2) / 2 := by rw [Nat.div_div_eq_div_mul, Nat.mul_comm 2 4, ← Nat.div_div_eq_div_mul, e1]
    have e3 : mk2 (k + 1) x y % 2 = x % 2 := by
      show (x % 2 + 2 * (y % 2) + 4 * mk2 k (x / 2) (y / 2)) % 2 = _; omega
    have e4 : mk2 (k + 1) x y / 2 % 2 = y % 2 := by
      show (x % 2 + 2 * (y % 2) + 4 * mk2 k (x / 2) (y / 2)) / 2 % 2 = _; omega
    constructor
    · show mk2 (k + 1) x y % 2 + 2 * ev k (mk2 (k + 1) x y / 4) = _
      rw [e1, e3, h1, Nat.pow_succ, Nat.mul_comm (2 ^ k) 2, Nat.mod_mul]
    · show mk2 (k + 1) x y / 2 % 2 + 2 * ev k (mk2 (k + 1) x y / 2 / 4) = _
      rw [e2, e4, h2, Nat.pow_succ, Nat.mul_comm (2 ^ k) 2, Nat.mod_mul]
theorem ev_lt : ∀ (k n : Nat), ev k n < 2 ^ k := by
  intro k
  induction k with
  | zero => intro n; exact Nat.one_pos
  | succ k ih => intro n; have h := ih (n / 4); show n % 2 + 2 * ev k (n / 4) < 2 ^ (k + 1); rw [Nat.pow_succ]; omega
theorem mk2_ev : ∀ (k n : Nat), mk2 k (ev k n) (ev k (n / 2)) = n % 4 ^ k := by
  intro k
  induction k with
  | zero => intro n; simp [mk2, Nat.mod_one]
  | succ k ih =>
    intro n
    have h := ih (n / 4)
    have a1 : ev (k + 1) n % 2 = n % 2 := by show (n % 2 + 2 * ev k (n / 4)) % 2 = _; omega
    have a2 : ev (k + 1) n / 2 = ev k (n / 4) := by show (n % 2 + 2 * ev k (n / 4)) / 2 = _; omega
    have a3 : ev (k + 1) (n / 2) % 2 = n / 2 % 2 := by show (n / 2 % 2 + 2 * ev k (n / 2 / 4)) % 2 = _; omega
    have a4 : ev (k + 1) (n / 2) / 2 = ev k (n / 4 / 2) := by
      show (n / 2 % 2 + 2 * ev k (n / 2 / 4)) / 2 = _
      rw [show n / 4 / 2 = n / 2 / 4 by omega]; omega
    show ev (k + 1) n % 2 + 2 * (ev (k + 1) (n / 2) % 2) + 4 * mk2 k (ev (k + 1) n / 2) (ev (k + 1) (n / 2) / 2) = _
    rw [a1, a2, a3, a4, h, Nat.pow_succ, Nat.mul_comm (4 ^ k) 4, Nat.mod_mul]; omega
/-- On one line the one further on has the greater key. -/
theorem mk2_less : ∀ (k x y z : Nat), x < 2 ^ k → y < 2 ^ k → (mk2 k x z < mk2 k y z ↔ x < y) ∧ (mk2 k z x < mk2 k z y ↔ x < y) := by
  intro k
  induction k with
  | zero => intro x y z hx hy; simp at hx hy; subst hx; subst hy; simp
  | succ k ih =>
    intro x y z hx hy
    rw [Nat.pow_succ] at hx hy
    obtain ⟨h1, h2⟩ := ih (x / 2) (y / 2) (z / 2) (by omega) (by omega)
    obtain ⟨h3, h4⟩ := ih (y / 2) (x / 2) (z / 2) (by omega) (by omega)
    constructor
    · show x % 2 + 2 * (z % 2) + 4 * mk2 k (x / 2) (z / 2) < y % 2 + 2 * (z % 2) + 4 * mk2 k (y / 2) (z / 2) ↔ _
      omega
    · show z % 2 + 2 * (x % 2) + 4 * mk2 k (z / 2) (x / 2) < z % 2 + 2 * (y % 2) + 4 * mk2 k (z / 2) (y / 2) ↔ _
      omega
/-- The key of what is left without the lowest bits. -/
theorem mk2_div : ∀ (j k x y : Nat), mk2 (k + j) x y / 4 ^ j = mk2 k (x / 2 ^ j) (y / 2 ^ j) := by
  intro j
  induction j with
  | zero => intro k x y; simp
  | succ j ih =>
    intro k x y
    have e : mk2 (k + (j + 1)) x y / 4 = mk2 (k + j) (x / 2) (y / 2) := by
      show (x % 2 + 2 * (y % 2) + 4 * mk2 (k + j) (x / 2) (y / 2)) / 4 = _; omega
    rw [Nat.pow_succ, Nat.mul_comm (4 ^ j) 4, ← Nat.div_div_eq_div_mul, e, ih, Nat.pow_succ, Nat.mul_comm (2 ^ j) 2, Nat.div_div_eq_div_mul, Nat.div_div_eq_div_mul]
theorem mk2_two : ∀ (k x y : Nat), mk2 k x y = mk2 k x 0 + mk2 k 0 y := by
  intro k
  induction k with
  | zero => intro x y; rfl
  | succ k ih =>
    intro x y
    show x % 2 + 2 * (y % 2) + 4 * mk2 k (x / 2) (y / 2) = (x % 2 + 2 * (0 % 2) + 4 * mk2 k (x / 2) (0 / 2)) + (0 % 2 + 2 * (y % 2) + 4 * mk2 k (0 / 2) (y / 2))
    rw [ih (x / 2) (y / 2), Nat.zero_div]; omega
/-- Bit by bit. -/
theorem mk2_bit : ∀ (k i x y : Nat), (mk2 k x y).testBit (2 * i) = (decide (i < k) && x.testBit i) ∧ (mk2 k x y).testBit (2 * i + 1) = (decide (i < k) && y.testBit i) := by
  intro k
  induction k with
  | zero => intro i x y; simp [mk2]
  | succ k ih =>
    intro i x y
    have e0 : mk2 (k + 1) x y = x % 2 + 2 * (y % 2) + 4 * mk2 k (x / 2) (y / 2) := rfl
    cases i with
    | zero =>
      constructor
      · rw [Nat.mul_zero, Nat.testBit_zero, e0, Nat.testBit_zero]; simp; omega
      · rw [Nat.mul_zero, Nat.zero_add, Nat.testBit_succ, Nat.testBit_zero, e0, Nat.testBit_zero]; simp; omega
    | succ i =>
      obtain ⟨h1, h2⟩ := ih i (x / 2) (y / 2)
      have e1 : mk2 (k + 1) x y / 2 / 2 = mk2 k (x / 2) (y / 2) := by rw [e0]; omega
      constructor
      · rw [show 2 * (i + 1) = 2 * i + 1 + 1 by omega, Nat.testBit_succ, Nat.testBit_succ, e1, h1, Nat.testBit_succ]
        congr 1; simp
      · rw [show 2 * (i + 1) + 1 = 2 * i + 1 + 1 + 1 by omega, Nat.testBit_succ, Nat.testBit_succ, e1, h2, Nat.testBit_succ]
        congr 1; simp
end Go.Proofs.YtjilnmpajhifcaaGreat
namespace Go.Proofs.YtjilnmpajhifcaaGreat
theorem mask_ones : ∀ j, j < 64 → Nat.testBit 6148914691236517205 j = decide (j % 2 = 0) := by decide
theorem mask_ones1 : ∀ j, j < 64 → Nat.testBit 6148914691236517205 j = decide (j / 1 % 2 = 0) := by decide
theorem mask_pairs : ∀ j, j < 64 → Nat.testBit 3689348814741910323 j = decide (j / 2 % 2 = 0) := by decide
theorem mask_fours : ∀ j, j < 64 → Nat.testBit 1085102592571150095 j = decide (j / 4 % 2 = 0) := by decide
theorem mask_eights : ∀ j, j < 64 → Nat.testBit 71777214294589695 j = decide (j / 8 % 2 = 0) := by decide
theorem mask_sixteens : ∀ j, j < 64 → Nat.testBit 281470681808895 j = decide (j / 16 % 2 = 0) := by decide
/-- The bits of x stand in blocks of s, with as many places left between. -/
def Sp (s v x : Nat) : Prop := ∀ j, j < 64 → v.testBit j = (decide (j / s % 2 = 0) && x.testBit (j / (2 * s) * s + j % s))
theorem sp_top {x : Nat} (h : x < 4294967296) : Sp 32 x x := by
  intro j hj
  by_cases c : j / 32 % 2 = 0
  · rw [decide_eq_true c, Bool.true_and]; congr 1; omega
  · rw [decide_eq_false c, Bool.false_and]
    exact Nat.testBit_lt_two_pow (Nat.lt_of_lt_of_le h (by
      have := Nat.pow_le_pow_right (n := 2) (by decide) (show 32 ≤ j by omega)
      simpa using this))
theorem sp_step {s v x M : Nat} (hs : s = 1 ∨ s = 2 ∨ s = 4 ∨ s = 8 ∨ s = 16) (hM : ∀ j, j < 64 → Nat.testBit M j = decide (j / s % 2 = 0)) (h : Sp (2 * s) v x) : Sp s ((v ||| v * 2 ^ s) &&& M) x := by
  intro j hj
  rw [Nat.testBit_and, Nat.testBit_or, Nat.testBit_mul_two_pow, hM j hj]
  by_cases c : j / s % 2 = 0
  · rw [decide_eq_true c, Bool.and_true, Bool.true_and, h j hj]
    by_cases d : s ≤ j
    · rw [decide_eq_true d, Bool.true_and, h (j - s) (by omega)]
      by_cases e : j / (2 * s) % 2 = 0
      · rw [decide_eq_true e, Bool.true_and]
        have f : ¬ (j - s) / (2 * s) % 2 = 0 := by rcases hs with rfl | rfl | rfl | rfl | rfl <;> omega
        rw [decide_eq_false f, Bool.false_and, Bool.or_false]
        congr 1
        rcases hs with rfl | rfl | rfl | rfl | rfl <;> omega
      · rw [decide_eq_false e, Bool.false_and, Bool.false_or]
        have f : (j - s) / (2 * s) % 2 = 0 := by rcases hs with rfl | rfl | rfl | rfl | rfl <;> omega
        rw [decide_eq_true f, Bool.true_and]
        congr 1
        rcases hs with rfl | rfl | rfl | rfl | rfl <;> omega
    · rw [decide_eq_false d, Bool.false_and, Bool.or_false]
      have e : j / (2 * s) % 2 = 0 := by rcases hs with rfl | rfl | rfl | rfl | rfl <;> omega
      rw [decide_eq_true e, Bool.true_and]
      congr 1
      rcases hs with rfl | rfl | rfl | rfl | rfl <;> omega
  · rw [decide_eq_false c, Bool.and_false, Bool.false_and]
/-- The bits of n at even places stand in blocks of s, with as many places left between. -/
def Ga (s v n : Nat) : Prop := ∀ j, j < 64 → v.testBit j = (decide (j / s % 2 = 0) && n.testBit (2 * (j / (2 * s) * s + j % s)))
theorem ga_low (n : Nat) : Ga 1 (n &&& 6148914691236517205) n := by
  intro j hj
  rw [Nat.testBit_and, mask_ones j hj, Nat.div_one]
  by_cases c : j % 2 = 0
  · rw [decide_eq_true c, Bool.and_true, Bool.true_and]; congr 1; omega
  · rw [decide_eq_false c, Bool.and_false, Bool.false_and]
theorem ga_step {s v n M : Nat} (hs : s = 1 ∨ s = 2 ∨ s = 4 ∨ s = 8) (hM : ∀ j, j < 64 → Nat.testBit M j = decide (j / (2 * s) % 2 = 0)) (h : Ga s v n) : Ga (2 * s) ((v ||| v / 2 ^ s) &&& M) n := by
  intro j hj
  rw [Nat.testBit_and, Nat.testBit_or, Nat.testBit_div_two_pow, hM j hj]
  by_cases c : j / (2 * s) % 2 = 0
  · rw [decide_eq_true c, Bool.and_true, Bool.true_and, h j hj, h (j + s) (by rcases hs with rfl | rfl | rfl | rfl <;> omega)]
    by_cases e : j / s % 2 = 0
    · have f : ¬ (j + s) / s % 2 = 0 := by rcases hs with rfl | rfl | rfl | rfl <;> omega
      rw [decide_eq_true e, Bool.true_and, decide_eq_false f, Bool.false_and, Bool.or_false]
      congr 1
      rcases hs with rfl | rfl | rfl | rfl <;> omega
    · have f : (j + s) / s % 2 = 0 := by rcases hs with rfl | rfl | rfl | rfl <;> omega
      rw [decide_eq_false e, Bool.false_and, Bool.false_or, decide_eq_true f, Bool.true_and]
      congr 1
      rcases hs with rfl | rfl | rfl | rfl <;> omega
  · rw [decide_eq_false c, Bool.and_false, Bool.false_and]
theorem ev_bit : ∀ (k i n : Nat), (ev k n).testBit i = (decide (i < k) && n.testBit (2 * i)) := by
  intro k
  induction k with
  | zero => intro i n; simp [ev]
  | succ k ih =>
    intro i n
    have e0 : ev (k + 1) n = n % 2 + 2 * ev k (n / 4) := rfl
    cases i with
    | zero => rw [Nat.mul_zero, Nat.testBit_zero, Nat.testBit_zero, e0]; simp
    | succ i =>
      have h1 := ih i (n / 4)
      have e1 : ev (k + 1) n / 2 = ev k (n / 4) := by rw [e0]; omega
      have e2 : n / 2 / 2 = n / 4 := by omega
      rw [Nat.testBit_succ, e1, h1, show 2 * (i + 1) = 2 * i + 1 + 1 by omega, Nat.testBit_succ, Nat.testBit_succ, e2]
      congr 1; simp
theorem bits_eq {a b : Nat} (ha : a < 18446744073709551616) (hb : b < 18446744073709551616) (h : ∀ j, j < 64 → a.testBit j = b.testBit j) : a = b := by
  apply Nat.eq_of_testBit_eq
  intro j
  by_cases c : j < 64
  · exact h j c
  · have hp : 18446744073709551616 ≤ 2 ^ j := by
      have := Nat.pow_le_pow_right (n := 2) (by decide) (show 64 ≤ j by omega)
      simpa using this
    rw [Nat.testBit_lt_two_pow (Nat.lt_of_lt_of_le ha hp), Nat.testBit_lt_two_pow (Nat.lt_of_lt_of_le hb hp)]
/-- A number's bits at the even places. -/
def spr (x : Nat) : Nat := mk2 32 x 0
theorem spr_lt (x : Nat) : spr x < 18446744073709551616 := mk2_lt 32 x 0
theorem sp_end {v x : Nat} (hv : v < 18446744073709551616) (h : Sp 1 v x) : v = spr x := by
  refine bits_eq hv (spr_lt x) fun j hj => ?_
  rw [h j hj, Nat.div_one, Nat.mul_one]
  by_cases c : j % 2 = 0
  · obtain ⟨i, rfl⟩ : ∃ i, j = 2 * i := ⟨j / 2, by omega⟩
    rw [decide_eq_true c, Bool.true_and, show spr x = mk2 32 x 0 from rfl, (mk2_bit 32 i x 0).1, decide_eq_true (by omega), Bool.true_and]
    congr 1; omega
  · obtain ⟨i, rfl⟩ : ∃ i, j = 2 * i + 1 := ⟨j / 2, by omega⟩
    rw [decide_eq_false c, Bool.false_and, show spr x = mk2 32 x 0 from rfl, (mk2_bit 32 i x 0).2, Nat.zero_testBit, Bool.and_false]
theorem or_key (x y : Nat) : spr x ||| spr y * 2 = mk2 32 x y := by
  refine bits_eq ?_ (mk2_lt 32 x y) fun j hj => ?_
  · have h1 := spr_lt x
    have h2 : spr y * 2 < 18446744073709551616 := by
      have e := mk2_two 32 y y
      have f : mk2 32 0 y = spr y * 2 := by
        have : ∀ k y, mk2 k 0 y = mk2 k y 0 * 2 := by
          intro k
          induction k with
          | zero => intro y; rfl
          | succ k ih => intro y; show 0 % 2 + 2 * (y % 2) + 4 * mk2 k (0 / 2) (y / 2) = (y % 2 + 2 * (0 % 2) + 4 * mk2 k (y / 2) (0 / 2)) * 2; rw [Nat.zero_div, ih]; omega
        exact this 32 y
      rw [← f]; exact mk2_lt 32 0 y
    exact Nat.or_lt_two_pow (n := 64) h1 h2
  · rw [Nat.testBit_or, show (2 : Nat) = 2 ^ 1 from rfl, Nat.testBit_mul_two_pow]
    by_cases c : j % 2 = 0
    · obtain ⟨i, rfl⟩ : ∃ i, j = 2 * i := ⟨j / 2, by omega⟩
      rw [show spr x = mk2 32 x 0 from rfl, (mk2_bit 32 i x 0).1, (mk2_bit 32 i x y).1]
      cases i with
      | zero => simp
      | succ i =>
        rw [show 2 * (i + 1) - 1 = 2 * i + 1 by omega, show spr y = mk2 32 y 0 from rfl, (mk2_bit 32 i y 0).2, Nat.zero_testBit]
        simp
    · obtain ⟨i, rfl⟩ : ∃ i, j = 2 * i + 1 := ⟨j / 2, by omega⟩
      rw [show spr x = mk2 32 x 0 from rfl, (mk2_bit 32 i x 0).2, (mk2_bit 32 i x y).2, Nat.zero_testBit, Bool.and_false, Bool.false_or, show 2 * i + 1 - 1 = 2 * i by omega, show spr y = mk2 32 y 0 from rfl, (mk2_bit 32 i y 0).1, decide_eq_true (by omega), Bool.true_and]
theorem ga_end {v n : Nat} (h : Ga 16 v n) : (v ||| v / 2 ^ 16) % 4294967296 = ev 32 n := by
  apply Nat.eq_of_testBit_eq
  intro j
  rw [show (4294967296 : Nat) = 2 ^ 32 from rfl, Nat.testBit_mod_two_pow, Nat.testBit_or, Nat.testBit_div_two_pow, ev_bit]
  by_cases c : j < 32
  · rw [decide_eq_true c, Bool.true_and, Bool.true_and, h j (by omega), h (j + 16) (by omega)]
    by_cases e : j / 16 % 2 = 0
    · rw [decide_eq_true e, Bool.true_and, decide_eq_false (show ¬ (j + 16) / 16 % 2 = 0 by omega), Bool.false_and, Bool.or_false]
      congr 1; omega
    · rw [decide_eq_false e, Bool.false_and, Bool.false_or, decide_eq_true (show (j + 16) / 16 % 2 = 0 by omega), Bool.true_and]
      congr 1; omega
  · rw [decide_eq_false c, Bool.false_and, Bool.false_and]

/-! In words. -/
open Go
theorem or64 {a b : Nat} (ha : a < 18446744073709551616) (hb : b < 18446744073709551616) : bits .or .u64 (a : Int) (b : Int) = ((a ||| b : Nat) : Int) := bits_or_u64_nat a b ha hb
theorem and64 {a b : Nat} (ha : a < 18446744073709551616) (hb : b < 18446744073709551616) : bits .and .u64 (a : Int) (b : Int) = ((a &&& b : Nat) : Int) := bits_and_u64_nat a b ha hb
/-- One step of spreading: what the word is behind it. -/
theorem spread_word {s v x M : Nat} (hs : s = 1 ∨ s = 2 ∨ s = 4 ∨ s = 8 ∨ s = 16) (hM : ∀ j, j < 64 → Nat.testBit M j = decide (j / s % 2 = 0)) (hM2 : M < 18446744073709551616) (hv : v * 2 ^ s < 18446744073709551616) (h : Sp (2 * s) v x) :
    ∃ u : Nat, IntKind.u64.wrap ((v : Int) * ((2 ^ s : Nat) : Int)) = ((v * 2 ^ s : Nat) : Int) ∧ bits .and .u64 (bits .or .u64 (v : Int) ((v * 2 ^ s : Nat) : Int)) (M : Int) = (u : Int) ∧ u ≤ M ∧ Sp s u x := by
  have hv0 : v < 18446744073709551616 := Nat.lt_of_le_of_lt (Nat.le_mul_of_pos_right v (Nat.two_pow_pos s)) hv
  refine ⟨(v ||| v * 2 ^ s) &&& M, ?_, ?_, Nat.and_le_right, sp_step hs hM h⟩
  · rw [wrap_u64, Int.natCast_mul]
    have : ((v * 2 ^ s : Nat) : Int) < 18446744073709551616 := by generalize v * 2 ^ s = t at *; omega
    rw [Int.natCast_mul] at this
    exact Int.emod_eq_of_lt (by omega) this
  · rw [or64 hv0 hv, and64 (Nat.or_lt_two_pow (n := 64) hv0 hv) hM2]
theorem gather_word {s v n M : Nat} (hs : s = 1 ∨ s = 2 ∨ s = 4 ∨ s = 8) (hM : ∀ j, j < 64 → Nat.testBit M j = decide (j / (2 * s) % 2 = 0)) (hM2 : M < 18446744073709551616) (hv : v < 18446744073709551616) (h : Ga s v n) :
    ∃ u : Nat, bits .and .u64 (bits .or .u64 (v : Int) ((v / 2 ^ s : Nat) : Int)) (M : Int) = (u : Int) ∧ u < 18446744073709551616 ∧ Ga (2 * s) u n := by
  have hd : v / 2 ^ s < 18446744073709551616 := Nat.lt_of_le_of_lt (Nat.div_le_self _ _) hv
  refine ⟨(v ||| v / 2 ^ s) &&& M, ?_, Nat.lt_of_le_of_lt Nat.and_le_right hM2, ga_step hs hM h⟩
  rw [or64 hv hd, and64 (Nat.or_lt_two_pow (n := 64) hv hd) hM2]
end Go.Proofs.YtjilnmpajhifcaaGreat
namespace Go.Proofs.YtjilnmpajhifcaaGreat
open Go.RowKit
set_option maxRecDepth 20000 in
set_option maxHeartbeats 8000000 in
theorem spread_core (x s0 s1 s2 s3 s4 v0 v1 v2 v3 v4 : Int) (e0 : IntKind.u64.wrap x = x) (a0 : IntKind.u64.wrap (x * 65536) = s0) (b0 : bits .and .u64 (bits .or .u64 x s0) 281470681808895 = v0) (a1 : IntKind.u64.wrap (v0 * 256) = s1) (b1 : bits .and .u64 (bits .or .u64 v0 s1) 71777214294589695 = v1) (a2 : IntKind.u64.wrap (v1 * 16) = s2) (b2 : bits .and .u64 (bits .or .u64 v1 s2) 1085102592571150095 = v2) (a3 : IntKind.u64.wrap (v2 * 4) = s3) (b3 : bits .and .u64 (bits .or .u64 v2 s3) 3689348814741910323 = v3) (a4 : IntKind.u64.wrap (v3 * 2) = s4) (b4 : bits .and .u64 (bits .or .u64 v3 s4) 6148914691236517205 = v4) (w : World) :
    Calls Tryz.prog 78 #[.int .u32 x] w fun e w' => e = .returned (.int .u64 v4) ∧ Below w.heap.size w w' := by
  go_enter Tryz.func78, Tryz.ntmps78
  go_wp2_with fail
  go_returns
  exact ⟨rfl, bb⟩
theorem pw16 : ((2 ^ 16 : Nat) : Int) = 65536 := rfl
theorem pw8 : ((2 ^ 8 : Nat) : Int) = 256 := rfl
theorem pw4 : ((2 ^ 4 : Nat) : Int) = 16 := rfl
theorem pw2 : ((2 ^ 2 : Nat) : Int) = 4 := rfl
theorem pw1 : ((2 ^ 1 : Nat) : Int) = 2 := rfl
theorem spread_any (x : Int) (hx : Hf x) (w : World) :
    Calls Tryz.prog 78 #[.int .u32 x] w fun e w' => e = .returned (.int .u64 (spr x.toNat : Int)) ∧ Below w.heap.size w w' := by
  obtain ⟨h0, h1⟩ := hx
  obtain ⟨n, rfl⟩ := Int.eq_ofNat_of_zero_le h0
  have hn : n < 4294967296 := by omega
  obtain ⟨u0, a0, b0, l0, p0⟩ := spread_word (s := 16) (by decide) mask_sixteens (by decide) (show n * 2 ^ 16 < _ by simp only [Nat.reducePow]; omega) (sp_top hn)
  obtain ⟨u1, a1, b1, l1, p1⟩ := spread_word (s := 8) (by decide) mask_eights (by decide) (show u0 * 2 ^ 8 < _ by simp only [Nat.reducePow]; omega) p0
  obtain ⟨u2, a2, b2, l2, p2⟩ := spread_word (s := 4) (by decide) mask_fours (by decide) (show u1 * 2 ^ 4 < _ by simp only [Nat.reducePow]; omega) p1
  obtain ⟨u3, a3, b3, l3, p3⟩ := spread_word (s := 2) (by decide) mask_pairs (by decide) (show u2 * 2 ^ 2 < _ by simp only [Nat.reducePow]; omega) p2
  obtain ⟨u4, a4, b4, l4, p4⟩ := spread_word (s := 1) (by decide) mask_ones1 (by decide) (show u3 * 2 ^ 1 < _ by simp only [Nat.reducePow]; omega) p3
  rw [pw16] at a0; rw [pw8] at a1; rw [pw4] at a2; rw [pw2] at a3; rw [pw1] at a4
  have e0 : IntKind.u64.wrap (n : Int) = n := by rw [wrap_u64]; omega
  have r := spread_core _ _ _ _ _ _ _ _ _ _ _ e0 a0 b0 a1 b1 a2 b2 a3 b3 a4 b4 w
  rw [sp_end (Nat.lt_of_le_of_lt l4 (by decide)) p4] at r
  rw [Int.toNat_natCast]; exact r
theorem wrap_u32 (n : Int) : IntKind.u32.wrap n = n % 4294967296 := by
  simp [IntKind.wrap, IntKind.bits, IntKind.signed]
set_option maxRecDepth 20000 in
set_option maxHeartbeats 8000000 in
theorem key_core (x y p q s r : Int) (a0 : IntKind.u64.wrap (q * 2) = s) (b0 : bits .or .u64 p s = r) (w : World)
    (C1 : Ct 78 #[.int .u32 x] (.int .u64 p))
    (C2 : Ct 78 #[.int .u32 y] (.int .u64 q)) :
    Calls Tryz.prog 61 #[.int .u32 x, .int .u32 y] w fun e w' => e = .returned (.int .u64 r) ∧ Below w.heap.size w w' := by
  have K1 := Lib.hid C1; have K2 := Lib.hid C2
  clear C1 C2
  go_enter Tryz.func61, Tryz.ntmps61
  go_wp2_with fail
  (with_reducible refine cm (K1.out _) fun w1 hclw1 hfrw1 hb => ?_); have sxw1_0 := sz1 (b := w.heap.size) hb; have HBw1 := hbw (a := w) hb; clear hb
  go_wp2_with fail
  (with_reducible refine cm (K2.out _) fun w2 hclw2 hfrw2 hb => ?_); have sxw2_0 := sz1 (b := w1.heap.size) hb; have HBw2 := hbw (a := w) hb; clear hb
  go_wp2_with fail
  go_returns
  exact ⟨rfl, bb⟩
/-- The key of two numbers. -/
def key (x y : Int) : Int := (mk2 32 x.toNat y.toNat : Int)
theorem spr_twice (y : Nat) : spr y * 2 < 18446744073709551616 := by
  have f : ∀ k y, mk2 k 0 y = mk2 k y 0 * 2 := by
    intro k
    induction k with
    | zero => intro y; rfl
    | succ k ih => intro y; show 0 % 2 + 2 * (y % 2) + 4 * mk2 k (0 / 2) (y / 2) = (y % 2 + 2 * (0 % 2) + 4 * mk2 k (y / 2) (0 / 2)) * 2; rw [Nat.zero_div, ih]; omega
  show mk2 32 y 0 * 2 < _
  rw [← f]; exact mk2_lt 32 0 y
theorem key_any (x y : Int) (hx : Hf x) (hy : Hf y) (w : World) :
    Calls Tryz.prog 61 #[.int .u32 x, .int .u32 y] w fun e w' => e = .returned (.int .u64 (key x y)) ∧ Below w.heap.size w w' := by
  have h2 := spr_twice y.toNat
  have a0 : IntKind.u64.wrap ((spr y.toNat : Int) * 2) = ((spr y.toNat * 2 : Nat) : Int) := by rw [wrap_u64]; omega
  have b0 := or64 (spr_lt x.toNat) h2
  rw [or_key] at b0
  exact key_core _ _ _ _ _ _ a0 b0 w (spread_any x hx) (spread_any y hy)
theorem key_wd (x y : Int) : Wd (key x y) := by
  have h := mk2_lt 32 x.toNat y.toNat
  unfold key; exact ⟨by omega, by simp only [Nat.reducePow] at h; omega⟩
end Go.Proofs.YtjilnmpajhifcaaGreat
namespace Go.Proofs.YtjilnmpajhifcaaGreat
open Go.RowKit
/-- A place's cell on its line. -/
def cl1 (h : Int) : Int := if h < -2147483648 then 0 else if 2147483647 < h then 4294967295 else h + 2147483648
theorem cl1_hf (h : Int) : Hf (cl1 h) := by unfold cl1 Hf; split <;> (try split) <;> omega
set_option maxRecDepth 20000 in
set_option maxHeartbeats 8000000 in
theorem along_0 (h l : Int) (c : h < -2147483648) (w : World)
    (C1 : Ct 95 #[.agg #[.int .i64 h, .int .u64 l]] (.int .i64 h)) :
    Calls Tryz.prog 79 #[.agg #[.int .i64 h, .int .u64 l]] w fun e w' => e = .returned (.int .u32 (0)) ∧ Below w.heap.size w w' := by
  have K1 := Lib.hid C1
  clear C1
  have c1 : ¬ 2147483647 < h := by omega
  have c3 : ¬ (-2147483648 : Int) < h := by omega
  go_enter Tryz.func79, Tryz.ntmps79
  go_wp2_with fail
  (with_reducible refine cm (K1.out _) fun w1 hclw1 hfrw1 hb => ?_); obtain ⟨zw1_a, yw1_a, yyw1_a⟩ := sz3 (B := w.heap.size) hb; have sxw1_0 := sz1 (b := w.heap.size + 1) hb; have HBw1 := hbw (a := w) hb; clear hb
  go_wp2_with fail
  all_goals (go_returns; exact ⟨ret_int (by omega), bb⟩)
set_option maxRecDepth 20000 in
set_option maxHeartbeats 8000000 in
theorem along_1 (h l : Int) (c : 2147483647 < h) (w : World)
    (C1 : Ct 95 #[.agg #[.int .i64 h, .int .u64 l]] (.int .i64 h)) :
    Calls Tryz.prog 79 #[.agg #[.int .i64 h, .int .u64 l]] w fun e w' => e = .returned (.int .u32 (4294967295)) ∧ Below w.heap.size w w' := by
  have K1 := Lib.hid C1
  clear C1
  have c1 : ¬ h < -2147483648 := by omega
  have c3 : (-2147483648 : Int) < h := by omega
  go_enter Tryz.func79, Tryz.ntmps79
  go_wp2_with fail
  (with_reducible refine cm (K1.out _) fun w1 hclw1 hfrw1 hb => ?_); obtain ⟨zw1_a, yw1_a, yyw1_a⟩ := sz3 (B := w.heap.size) hb; have sxw1_0 := sz1 (b := w.heap.size + 1) hb; have HBw1 := hbw (a := w) hb; clear hb
  go_wp2_with fail
  all_goals (go_returns; exact ⟨ret_int (by omega), bb⟩)
set_option maxRecDepth 20000 in
set_option maxHeartbeats 8000000 in
theorem along_2 (h l : Int) (c : ¬ h < -2147483648) (d : ¬ 2147483647 < h) (w : World)
    (C1 : Ct 95 #[.agg #[.int .i64 h, .int .u64 l]] (.int .i64 h)) :
    Calls Tryz.prog 79 #[.agg #[.int .i64 h, .int .u64 l]] w fun e w' => e = .returned (.int .u32 (h + 2147483648)) ∧ Below w.heap.size w w' := by
  have K1 := Lib.hid C1
  clear C1
  have wr1 : IntKind.i64.wrap (h + 2147483648) = h + 2147483648 := IntWalk.i64_in _ (by omega)
  have wr2 : IntKind.u32.wrap (h + 2147483648) = h + 2147483648 := by rw [wrap_u32]; omega
  go_enter Tryz.func79, Tryz.ntmps79
  go_wp2_with fail
  (with_reducible refine cm (K1.out _) fun w1 hclw1 hfrw1 hb => ?_); obtain ⟨zw1_a, yw1_a, yyw1_a⟩ := sz3 (B := w.heap.size) hb; have sxw1_0 := sz1 (b := w.heap.size + 1) hb; have HBw1 := hbw (a := w) hb; clear hb
  go_wp2_with fail
  all_goals (go_returns; exact ⟨ret_int (by omega), bb⟩)
set_option maxRecDepth 20000 in
set_option maxHeartbeats 8000000 in
theorem rpart_0 (h l : Int) (c : h < -2147483648) (w : World)
    (C1 : Ct 94 #[.agg #[.int .i64 h, .int .u64 l]] (.int .i64 h)) :
    Calls Tryz.prog 77 #[.agg #[.int .i64 h, .int .u64 l]] w fun e w' => e = .returned (.int .u32 (0)) ∧ Below w.heap.size w w' := by
  have K1 := Lib.hid C1
  clear C1
  have c1 : ¬ 2147483647 < h := by omega
  have c3 : ¬ (-2147483648 : Int) < h := by omega
  go_enter Tryz.func77, Tryz.ntmps77
  go_wp2_with fail
  (with_reducible refine cm (K1.out _) fun w1 hclw1 hfrw1 hb => ?_); obtain ⟨zw1_a, yw1_a, yyw1_a⟩ := sz3 (B := w.heap.size) hb; have sxw1_0 := sz1 (b := w.heap.size + 1) hb; have HBw1 := hbw (a := w) hb; clear hb
  go_wp2_with fail
  all_goals (go_returns; exact ⟨ret_int (by omega), bb⟩)
set_option maxRecDepth 20000 in
set_option maxHeartbeats 8000000 in
theorem rpart_1 (h l : Int) (c : 2147483647 < h) (w : World)
    (C1 : Ct 94 #[.agg #[.int .i64 h, .int .u64 l]] (.int .i64 h)) :
    Calls Tryz.prog 77 #[.agg #[.int .i64 h, .int .u64 l]] w fun e w' => e = .returned (.int .u32 (4294967295)) ∧ Below w.heap.size w w' := by
  have K1 := Lib.hid C1
  clear C1
  have c1 : ¬ h < -2147483648 := by omega
  have c3 : (-2147483648 : Int) < h := by omega
  go_enter Tryz.func77, Tryz.ntmps77
  go_wp2_with fail
  (with_reducible refine cm (K1.out _) fun w1 hclw1 hfrw1 hb => ?_); obtain ⟨zw1_a, yw1_a, yyw1_a⟩ := sz3 (B := w.heap.size) hb; have sxw1_0 := sz1 (b := w.heap.size + 1) hb; have HBw1 := hbw (a := w) hb; clear hb
  go_wp2_with fail
  all_goals (go_returns; exact ⟨ret_int (by omega), bb⟩)
set_option maxRecDepth 20000 in
set_option maxHeartbeats 8000000 in
theorem rpart_2 (h l : Int) (c : ¬ h < -2147483648) (d : ¬ 2147483647 < h) (w : World)
    (C1 : Ct 94 #[.agg #[.int .i64 h, .int .u64 l]] (.int .i64 h)) :
    Calls Tryz.prog 77 #[.agg #[.int .i64 h, .int .u64 l]] w fun e w' => e = .returned (.int .u32 (h + 2147483648)) ∧ Below w.heap.size w w' := by
  have K1 := Lib.hid C1
  clear C1
  have wr1 : IntKind.i64.wrap (h + 2147483648) = h + 2147483648 := IntWalk.i64_in _ (by omega)
  have wr2 : IntKind.u32.wrap (h + 2147483648) = h + 2147483648 := by rw [wrap_u32]; omega
  go_enter Tryz.func77, Tryz.ntmps77
  go_wp2_with fail
  (with_reducible refine cm (K1.out _) fun w1 hclw1 hfrw1 hb => ?_); obtain ⟨zw1_a, yw1_a, yyw1_a⟩ := sz3 (B := w.heap.size) hb; have sxw1_0 := sz1 (b := w.heap.size + 1) hb; have HBw1 := hbw (a := w) hb; clear hb
  go_wp2_with fail
  all_goals (go_returns; exact ⟨ret_int (by omega), bb⟩)
theorem along_any (h l : Int) (w : World) : Calls Tryz.prog 79 #[.agg #[.int .i64 h, .int .u64 l]] w fun e w' => e = .returned (.int .u32 (cl1 h)) ∧ Below w.heap.size w w' := by
  unfold cl1
  by_cases c : h < -2147483648
  · rw [if_pos c]; exact along_0 h l c w (floor_any h l)
  · rw [if_neg c]
    by_cases d : 2147483647 < h
    · rw [if_pos d]; exact along_1 h l d w (floor_any h l)
    · rw [if_neg d]; exact along_2 h l c d w (floor_any h l)
theorem rpart_any (h l : Int) (w : World) : Calls Tryz.prog 77 #[.agg #[.int .i64 h, .int .u64 l]] w fun e w' => e = .returned (.int .u32 (cl1 h)) ∧ Below w.heap.size w w' := by
  unfold cl1
  by_cases c : h < -2147483648
  · rw [if_pos c]; exact rpart_0 h l c w (rfloor_core h l)
  · rw [if_neg c]
    by_cases d : 2147483647 < h
    · rw [if_pos d]; exact rpart_1 h l d w (rfloor_core h l)
    · rw [if_neg d]; exact rpart_2 h l c d w (rfloor_core h l)
set_option maxRecDepth 20000 in
set_option maxHeartbeats 8000000 in
theorem rkey_loop (x y : Int) (N : Nat → Int) (bx yb p q r : Nat → Int) (hx : Hf x) (hy : Hf y) (n0 : N 0 = 0) (w : World)
    (e1 : ∀ i, i < 32 → bits .and .u64 (x / 2 ^ i) 1 = bx i) (e2 : ∀ i, i < 32 → IntKind.u64.wrap (bx i * 2 ^ (2 * i)) = p i)
    (e3 : ∀ i, i < 32 → bits .and .u64 (y / 2 ^ i) 1 = yb i) (e4 : ∀ i, i < 32 → IntKind.u64.wrap (yb i * 2 ^ (2 * i + 1)) = q i)
    (e5 : ∀ i, i < 32 → bits .or .u64 (p i) (q i) = r i) (e6 : ∀ i, i < 32 → bits .or .u64 (N i) (r i) = N (i + 1)) :
    Calls Tryz.prog 59 #[.int .u32 x, .int .u32 y] w fun e w' => e = .returned (.int .u64 (N 32)) ∧ Below w.heap.size w w' := by
  have E1 := Lib.hid e1; have E2 := Lib.hid e2; have E3 := Lib.hid e3; have E4 := Lib.hid e4; have E5 := Lib.hid e5; have E6 := Lib.hid e6
  clear e1 e2 e3 e4 e5 e6
  obtain ⟨x0, x1⟩ := hx; obtain ⟨y0, y1⟩ := hy
  have wx : IntKind.u64.wrap x = x := IntWalk.u64_in _ (by omega)
  have wy : IntKind.u64.wrap y = y := IntWalk.u64_in _ (by omega)
  have NN := Lib.hid n0; clear n0
  go_enter Tryz.func59, Tryz.ntmps59
  go_wp2_with fail
  go_loopg [5, 6] 32 (fun k nv iv wr => ∃ i : Nat, i + k = 32 ∧ nv = .int .u64 (N i) ∧ iv = .int .i64 (i : Int) ∧ Below w.heap.size w wr)
  case atStart => exact ⟨0, rfl, by rw [NN.out], rfl, Below.refl _ _⟩
  case round =>
    obtain ⟨i, hk, rfl, rfl, hbl⟩ := hrel
    have HB := Lib.hid hbl
    clear hbl NN
    rcases gk with _ | k
    · obtain rfl : i = 32 := by omega
      clear E1 E2 E3 E4 E5 E6
      go_wp2_with fail
      go_returns
      exact ⟨rfl, HB.out⟩
    · have hlt : ((i : Nat) : Int) < 32 := by omega
      have h0 : (0 : Int) ≤ (i : Int) := by omega
      have wi : IntKind.i64.wrap ((i : Int) + 1) = (i : Int) + 1 := IntWalk.i64_in _ (by omega)
      have w2 : IntKind.i64.wrap (2 * (i : Int)) = ((2 * i : Nat) : Int) := by rw [IntWalk.i64_in _ (by omega)]; omega
      have w3 : IntKind.i64.wrap (((2 * i : Nat) : Int) + 1) = ((2 * i + 1 : Nat) : Int) := by rw [IntWalk.i64_in _ (by omega)]; omega
      have f1 := E1.out i (by omega); have f2 := E2.out i (by omega); have f3 := E3.out i (by omega); have f4 := E4.out i (by omega); have f5 := E5.out i (by omega); have f6 := E6.out i (by omega)
      have HK : Hid (i + 1 + k = 32) := by show _ = _; omega
      have g2 : ((2 * i : Nat) : Int) < 64 := by omega
      have g3 : ((2 * i + 1 : Nat) : Int) < 64 := by omega
      have g4 : ¬ ((2 * i : Nat) : Int) < 0 := by omega
      have g5 : ¬ ((2 * i + 1 : Nat) : Int) < 0 := by omega
      clear hk E1 E2 E3 E4 E5 E6
      generalize 2 * i + 1 = j3 at *
      generalize 2 * i = j2 at *
      go_upto_region 5 with fail
      go_region_held3 (fun w' => True) (trivial) (fail)
      rename_i hHeld
      clear hHeld
      go_wp2_with fail
      go_roundg k
      case measure => omega
      case rel => exact ⟨i + 1, by have := HK.out; omega, rfl, by simp, bb⟩
theorem or_low {a b : Nat} (k : Nat) (h : b < 2 ^ k) : b ||| a * 2 ^ k = b + a * 2 ^ k := by
  rw [Nat.or_comm, Nat.mul_comm, ← Nat.two_pow_add_eq_or_of_lt h, Nat.add_comm]
theorem four_pow (i : Nat) : 4 ^ i = 2 ^ (2 * i) := by rw [Nat.pow_mul]
theorem rkey_any (x y : Int) (hx : Hf x) (hy : Hf y) (w : World) :
    Calls Tryz.prog 59 #[.int .u32 x, .int .u32 y] w fun e w' => e = .returned (.int .u64 (key x y)) ∧ Below w.heap.size w w' := by
  obtain ⟨x0, x1⟩ := hx; obtain ⟨y0, y1⟩ := hy
  obtain ⟨X, rfl⟩ := Int.eq_ofNat_of_zero_le x0
  obtain ⟨Y, rfl⟩ := Int.eq_ofNat_of_zero_le y0
  have hp : ∀ i, i < 32 → 2 ^ (2 * i) ≤ 4611686018427387904 := fun i hi => by
    have := Nat.pow_le_pow_right (n := 2) (by decide) (show 2 * i ≤ 62 by omega); simpa using this
  have hq : ∀ i, i < 32 → 2 ^ (2 * i + 1) = 2 * 2 ^ (2 * i) := fun i _ => by rw [Nat.pow_succ, Nat.mul_comm]
  have hX : X < 4294967296 := by omega
  have hY : Y < 4294967296 := by omega
  have bit : ∀ (Z i : Nat), Z < 4294967296 → bits .and .u64 ((Z : Int) / 2 ^ i) 1 = ((Z / 2 ^ i % 2 : Nat) : Int) := fun Z i hZ => by
    have e : (Z : Int) / 2 ^ i = ((Z / 2 ^ i : Nat) : Int) := by simp
    have l : Z / 2 ^ i ≤ Z := Nat.div_le_self _ _
    rw [e]; generalize Z / 2 ^ i = t at l ⊢; rw [and_one _ ⟨by omega, by omega⟩]; omega
  have up : ∀ (b m : Nat), b < 2 → 2 ^ m ≤ 9223372036854775808 → IntKind.u64.wrap ((b : Int) * 2 ^ m) = ((b * 2 ^ m : Nat) : Int) := fun b m hb hm => by
    have e : (b : Int) * 2 ^ m = ((b * 2 ^ m : Nat) : Int) := by simp
    have l : b * 2 ^ m ≤ 1 * 2 ^ m := Nat.mul_le_mul_right _ (by omega)
    rw [e, wrap_u64]; omega
  have r := rkey_loop (X : Int) (Y : Int) (fun i => ((mk2 i X Y : Nat) : Int)) (fun i => ((X / 2 ^ i % 2 : Nat) : Int)) (fun i => ((Y / 2 ^ i % 2 : Nat) : Int)) (fun i => ((X / 2 ^ i % 2 * 2 ^ (2 * i) : Nat) : Int)) (fun i => ((Y / 2 ^ i % 2 * 2 ^ (2 * i + 1) : Nat) : Int)) (fun i => (((X / 2 ^ i % 2 + 2 * (Y / 2 ^ i % 2)) * 2 ^ (2 * i) : Nat) : Int)) ⟨x0, x1⟩ ⟨y0, y1⟩ rfl w
    (fun i hi => bit X i hX) (fun i hi => up _ _ (by omega) (by have := hp i hi; omega)) (fun i hi => bit Y i hY) (fun i hi => up _ _ (by omega) (by have := hp i hi; have := hq i hi; omega))
    (fun i hi => by
      have h1 := hp i hi; have h2 := hq i hi
      have b1 : X / 2 ^ i % 2 < 2 := by omega
      have b2 : Y / 2 ^ i % 2 < 2 := by omega
      show bits .or .u64 ((X / 2 ^ i % 2 * 2 ^ (2 * i) : Nat) : Int) ((Y / 2 ^ i % 2 * 2 ^ (2 * i + 1) : Nat) : Int) = (((X / 2 ^ i % 2 + 2 * (Y / 2 ^ i % 2)) * 2 ^ (2 * i) : Nat) : Int)
      generalize X / 2 ^ i % 2 = a at *
      generalize Y / 2 ^ i % 2 = b at *
      have l1 : a * 2 ^ (2 * i) ≤ 1 * 2 ^ (2 * i) := Nat.mul_le_mul_right _ (by omega)
      have l2 : b * 2 ^ (2 * i + 1) ≤ 1 * 2 ^ (2 * i + 1) := Nat.mul_le_mul_right _ (by omega)
      have hpos := Nat.two_pow_pos (2 * i)
      rw [or64 (by omega) (by omega), or_low _ (by omega), h2, Nat.add_mul, Nat.mul_comm 2 b, Nat.mul_assoc])
    (fun i hi => by
      have h1 := hp i hi; have h2 := hq i hi
      have hl := mk2_lt i X Y
      show bits .or .u64 ((mk2 i X Y : Nat) : Int) (((X / 2 ^ i % 2 + 2 * (Y / 2 ^ i % 2)) * 2 ^ (2 * i) : Nat) : Int) = ((mk2 (i + 1) X Y : Nat) : Int)
      rw [mk2_top, four_pow]
      rw [four_pow] at hl
      have b3 : X / 2 ^ i % 2 + 2 * (Y / 2 ^ i % 2) ≤ 3 := by omega
      generalize X / 2 ^ i % 2 + 2 * (Y / 2 ^ i % 2) = a at *
      have l1 : a * 2 ^ (2 * i) ≤ 3 * 2 ^ (2 * i) := Nat.mul_le_mul_right _ b3
      rw [or64 (by omega) (by omega), or_low _ hl])
  exact r
set_option maxRecDepth 20000 in
set_option maxHeartbeats 8000000 in
theorem cell_core (vxh vxl vyh vyl p q : Int)  (w : World)
    (C1 : Ct 79 #[.agg #[.int .i64 vxh, .int .u64 vxl]] (.int .u32 p))
    (C2 : Ct 79 #[.agg #[.int .i64 vyh, .int .u64 vyl]] (.int .u32 q)) :
    Calls Tryz.prog 62 #[.agg #[.int .i64 vxh, .int .u64 vxl, .int .i64 vyh, .int .u64 vyl]] w fun e w' => e = .returned (.tuple #[.int .u32 p, .int .u32 q]) ∧ Below w.heap.size w w' := by
  have K1 := Lib.hid C1; have K2 := Lib.hid C2
  clear C1 C2
  go_enter Tryz.func62, Tryz.ntmps62
  go_upto_region 1 with fail
  refine nw _ fun R1 hR1 => ?_
  obtain ⟨zR1_v, yR1_v, yyR1_v, cR1_v_0, cR1_v_1, cR1_v_2, cR1_v_3⟩ := cz4 hR1 w.heap.size (.int .i64 vxh) (.int .u64 vxl) (.int .i64 vyh) (.int .u64 vyl)
  have HBR1 := bhr (a := w) hR1
  clear hR1
  go_region_held3 (fun w' => w'.cell? ⟨w.heap.size, 0, none⟩ = some (.int .i64 vxh) ∧ w'.cell? ⟨w.heap.size, 1, none⟩ = some (.int .u64 vxl) ∧ w'.cell? ⟨w.heap.size, 2, none⟩ = some (.int .i64 vyh) ∧ w'.cell? ⟨w.heap.size, 3, none⟩ = some (.int .u64 vyl)) (first | (simp [*, go_sem]; done) | (simp [*, go_sem, World.cell?_alloc_past]; done))
    (first
      | (go_at_call 79; (with_reducible refine (K1.out _).mono ?_); rintro e w1 ⟨rfl, hb⟩; (first | (with_reducible (obtain ⟨hclw1, hfrw1⟩ := bcell_drew hb)) | (obtain ⟨hclw1, hfrw1⟩ := bcell hb)); obtain ⟨zw1_v, yw1_v, yyw1_v⟩ := sz3 (B := w.heap.size) hb; have sxw1_0 := sz1 (b := R1.heap.size) hb; have HBw1 := hbw (a := w) hb; clear hb; clear K1)
      | (go_at_call 79; (with_reducible refine cm (K2.out _) fun w2 hclw2 hfrw2 hb => ?_); obtain ⟨zw2_v, yw2_v, yyw2_v⟩ := sz3 (B := w.heap.size) hb; have sxw2_0 := sz1 (b := R1.heap.size) hb; have sxw2_w1 := sz1 (b := w1.heap.size) hb; have HBw2 := hbw (a := w) hb; clear hb; clear K2))
  rename_i hHeld
  clear hHeld
  go_wp2_with fail
  go_returns
  exact ⟨rfl, bb⟩
theorem cell_any (x y : Int) (w : World) : Calls Tryz.prog 62 #[vec x y] w fun e w' => e = .returned (.tuple #[.int .u32 (cl1 (fh x)), .int .u32 (cl1 (fh y))]) ∧ Below w.heap.size w w' :=
  cell_core _ _ _ _ _ _ w (along_any _ _) (along_any _ _)
set_option maxRecDepth 20000 in
set_option maxHeartbeats 8000000 in
theorem rcell_core (vxh vxl vyh vyl p q : Int)  (w : World)
    (C1 : Ct 77 #[.agg #[.int .i64 vxh, .int .u64 vxl]] (.int .u32 p))
    (C2 : Ct 77 #[.agg #[.int .i64 vyh, .int .u64 vyl]] (.int .u32 q)) :
    Calls Tryz.prog 58 #[.agg #[.int .i64 vxh, .int .u64 vxl, .int .i64 vyh, .int .u64 vyl]] w fun e w' => e = .returned (.tuple #[.int .u32 p, .int .u32 q]) ∧ Below w.heap.size w w' := by
  have K1 := Lib.hid C1; have K2 := Lib.hid C2
  clear C1 C2
  go_enter Tryz.func58, Tryz.ntmps58
  go_upto_region 1 with fail
  refine nw _ fun R1 hR1 => ?_
  obtain ⟨zR1_v, yR1_v, yyR1_v, cR1_v_0, cR1_v_1, cR1_v_2, cR1_v_3⟩ := cz4 hR1 w.heap.size (.int .i64 vxh) (.int .u64 vxl) (.int .i64 vyh) (.int .u64 vyl)
  have HBR1 := bhr (a := w) hR1
  clear hR1
  go_region_held3 (fun w' => w'.cell? ⟨w.heap.size, 0, none⟩ = some (.int .i64 vxh) ∧ w'.cell? ⟨w.heap.size, 1, none⟩ = some (.int .u64 vxl) ∧ w'.cell? ⟨w.heap.size, 2, none⟩ = some (.int .i64 vyh) ∧ w'.cell? ⟨w.heap.size, 3, none⟩ = some (.int .u64 vyl)) (first | (simp [*, go_sem]; done) | (simp [*, go_sem, World.cell?_alloc_past]; done))
    (first
      | (go_at_call 77; (with_reducible refine (K1.out _).mono ?_); rintro e w1 ⟨rfl, hb⟩; (first | (with_reducible (obtain ⟨hclw1, hfrw1⟩ := bcell_drew hb)) | (obtain ⟨hclw1, hfrw1⟩ := bcell hb)); obtain ⟨zw1_v, yw1_v, yyw1_v⟩ := sz3 (B := w.heap.size) hb; have sxw1_0 := sz1 (b := R1.heap.size) hb; have HBw1 := hbw (a := w) hb; clear hb; clear K1)
      | (go_at_call 77; (with_reducible refine cm (K2.out _) fun w2 hclw2 hfrw2 hb => ?_); obtain ⟨zw2_v, yw2_v, yyw2_v⟩ := sz3 (B := w.heap.size) hb; have sxw2_0 := sz1 (b := R1.heap.size) hb; have sxw2_w1 := sz1 (b := w1.heap.size) hb; have HBw2 := hbw (a := w) hb; clear hb; clear K2))
  rename_i hHeld
  clear hHeld
  go_wp2_with fail
  go_returns
  exact ⟨rfl, bb⟩
theorem rcell_any (x y : Int) (w : World) : Calls Tryz.prog 58 #[vec x y] w fun e w' => e = .returned (.tuple #[.int .u32 (cl1 (fh x)), .int .u32 (cl1 (fh y))]) ∧ Below w.heap.size w w' :=
  rcell_core _ _ _ _ _ _ w (rpart_any _ _) (rpart_any _ _)
set_option maxRecDepth 20000 in
set_option maxHeartbeats 8000000 in
theorem of_core (vxh vxl vyh vyl p q r : Int)  (w : World)
    (C1 : Ct 62 #[.agg #[.int .i64 vxh, .int .u64 vxl, .int .i64 vyh, .int .u64 vyl]] (.tuple #[.int .u32 p, .int .u32 q]))
    (C2 : Ct 61 #[.int .u32 p, .int .u32 q] (.int .u64 r)) :
    Calls Tryz.prog 33 #[.agg #[.int .i64 vxh, .int .u64 vxl, .int .i64 vyh, .int .u64 vyl]] w fun e w' => e = .returned (.int .u64 r) ∧ Below w.heap.size w w' := by
  have K1 := Lib.hid C1; have K2 := Lib.hid C2
  clear C1 C2
  go_enter Tryz.func33, Tryz.ntmps33
  go_wp2_with fail
  (with_reducible refine cm (K1.out _) fun w1 hclw1 hfrw1 hb => ?_); obtain ⟨zw1_v, yw1_v, yyw1_v⟩ := sz3 (B := w.heap.size) hb; have sxw1_0 := sz1 (b := w.heap.size + 1) hb; have HBw1 := hbw (a := w) hb; clear hb
  go_wp2_with fail
  (with_reducible refine cm (K2.out _) fun w2 hclw2 hfrw2 hb => ?_); obtain ⟨zw2_v, yw2_v, yyw2_v⟩ := sz3 (B := w.heap.size) hb; have sxw2_0 := sz1 (b := w1.heap.size) hb; have HBw2 := hbw (a := w) hb; clear hb
  go_wp2_with fail
  go_returns
  exact ⟨rfl, bb⟩
theorem of_any (x y : Int) (w : World) : Calls Tryz.prog 33 #[vec x y] w fun e w' => e = .returned (.int .u64 (key (cl1 (fh x)) (cl1 (fh y)))) ∧ Below w.heap.size w w' :=
  of_core _ _ _ _ _ _ _ w (cell_any x y) (key_any _ _ (cl1_hf _) (cl1_hf _))
set_option maxRecDepth 20000 in
set_option maxHeartbeats 8000000 in
theorem rof_core (vxh vxl vyh vyl p q r : Int)  (w : World)
    (C1 : Ct 58 #[.agg #[.int .i64 vxh, .int .u64 vxl, .int .i64 vyh, .int .u64 vyl]] (.tuple #[.int .u32 p, .int .u32 q]))
    (C2 : Ct 59 #[.int .u32 p, .int .u32 q] (.int .u64 r)) :
    Calls Tryz.prog 24 #[.agg #[.int .i64 vxh, .int .u64 vxl, .int .i64 vyh, .int .u64 vyl]] w fun e w' => e = .returned (.int .u64 r) ∧ Below w.heap.size w w' := by
  have K1 := Lib.hid C1; have K2 := Lib.hid C2
  clear C1 C2
  go_enter Tryz.func24, Tryz.ntmps24
  go_wp2_with fail
  (with_reducible refine cm (K1.out _) fun w1 hclw1 hfrw1 hb => ?_); obtain ⟨zw1_v, yw1_v, yyw1_v⟩ := sz3 (B := w.heap.size) hb; have sxw1_0 := sz1 (b := w.heap.size + 1) hb; have HBw1 := hbw (a := w) hb; clear hb
  go_wp2_with fail
  (with_reducible refine cm (K2.out _) fun w2 hclw2 hfrw2 hb => ?_); obtain ⟨zw2_v, yw2_v, yyw2_v⟩ := sz3 (B := w.heap.size) hb; have sxw2_0 := sz1 (b := w1.heap.size) hb; have HBw2 := hbw (a := w) hb; clear hb
  go_wp2_with fail
  go_returns
  exact ⟨rfl, bb⟩
theorem rof_any (x y : Int) (w : World) : Calls Tryz.prog 24 #[vec x y] w fun e w' => e = .returned (.int .u64 (key (cl1 (fh x)) (cl1 (fh y)))) ∧ Below w.heap.size w w' :=
  rof_core _ _ _ _ _ _ _ w (rcell_any x y) (rkey_any _ _ (cl1_hf _) (cl1_hf _))
end Go.Proofs.YtjilnmpajhifcaaGreat
