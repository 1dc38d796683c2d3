/- Package morton: cells, keys of places; the document's; awake. -/
import Derived.Test.YtjilnmpajhifcaaZzLimA
import Derived.Laws.BitsLemmas
import Derived.Laws.Bits64
import Derived.Laws.Bits64b
import Derived.Test.YtjilnmpajhifcaaZzFixA
import Derived.Test.YtjilnmpajhifcaaZzVecA
import Derived.Test.YtjilnmpajhifcaaZzLimC
import Derived.Test.YtjilnmpajhifcaaZzRefA
namespace Go.Proofs.Ytjilnmpajhifcaa
/-- The key of the lowest k bits of two numbers. -/
def mk2 : Nat → Nat → Nat → Nat
  | 0, _, _ => 0
  | k + 1, x, y => x % 2 + 2 * (y % 2) + 4 * mk2 k (x / 2) (y / 2)
/-- Each second bit of a number, k of them. -/
def ev : Nat → Nat → Nat
  | 0, _ => 0
  | k + 1, n => n % 2 + 2 * ev k (n / 4)
theorem mk2_lt : ∀ (k x y : Nat), mk2 k x y < 4 ^ k := by
  intro k
  induction k with
  | zero => intro x y; exact Nat.one_pos
  | succ k ih =>
    intro x y
    have h := ih (x / 2) (y / 2)
    show x % 2 + 2 * (y % 2) + 4 * mk2 k (x / 2) (y / 2) < 4 ^ (k + 1)
    rw [Nat.pow_succ]; omega
/-- One bit more, at the upper end. -/
theorem mk2_top : ∀ (k x y : Nat), mk2 (k + 1) x y = mk2 k x y + (x / 2 ^ k % 2 + 2 * (y / 2 ^ k % 2)) * 4 ^ k := by
  intro k
  induction k with
  | zero => intro x y; simp [mk2]
  | succ k ih =>
    intro x y
    have h := ih (x / 2) (y / 2)
    show x % 2 + 2 * (y % 2) + 4 * mk2 (k + 1) (x / 2) (y / 2) = x % 2 + 2 * (y % 2) + 4 * mk2 k (x / 2) (y / 2) + _
    rw [h, Nat.pow_succ 4 k, Nat.pow_succ 2 k, Nat.mul_comm (2 ^ k) 2, ← Nat.div_div_eq_div_mul, ← Nat.div_div_eq_div_mul]
    generalize (x / 2 / 2 ^ k % 2 + 2 * (y / 2 / 2 ^ k % 2)) = b
    rw [← Nat.mul_assoc b, Nat.mul_comm (b * 4 ^ k) 4]; omega
theorem ev_mk2 : ∀ (k x y : Nat), ev k (mk2 k x y) = x % 2 ^ k ∧ ev k (mk2 k x y / 2) = y % 2 ^ k := by
  intro k
  induction k with
  | zero => intro x y; simp [ev, Nat.mod_one]
  | succ k ih =>
    intro x y
    obtain ⟨h1, h2⟩ := ih (x / 2) (y / 2)
    have e1 : mk2 (k + 1) x y / 4 = mk2 k (x / 2) (y / 2) := by
      show (x % 2 + 2 * (y % 2) + 4 * mk2 k (x / 2) (y / 2)) / 4 = _; omega
    have e2 : mk2 (k + 1) x y / 2 / 4 = mk2 k (x / 2) (y / 2) / 2 := by rw [Nat.div_div_eq_div_mul, Nat.mul_comm 2 4, ← Nat.div_div_eq_div_mul, e1]
    have e3 : mk2 (k + 1) x y % 2 = x % 2 := by
      show (x % 2 + 2 * (y % 2) + 4 * mk2 k (x / 2) (y / 2)) % 2 = _; omega
    have e4 : mk2 (k + 1) x y / 2 % 2 = y % 2 := by
      show (x % 2 + 2 * (y % 2) + 4 * mk2 k (x / 2) (y / 2)) / 2 % 2 = _; omega
    constructor
    · show mk2 (k + 1) x y % 2 + 2 * ev k (mk2 (k + 1) x y / 4) = _
      rw [e1, e3, h1, Nat.pow_succ, Nat.mul_comm (2 ^ k) 2, Nat.mod_mul]
    · show mk2 (k + 1) x y / 2 % 2 + 2 * ev k (mk2 (k + 1) x y / 2 / 4) = _
      rw [e2, e4, h2, Nat.pow_succ, Nat.mul_comm (2 ^ k) 2, Nat.mod_mul]
theorem ev_lt : ∀ (k n : Nat), ev k n < 2 ^ k := by
  intro k
  induction k with
  | zero => intro n; exact Nat.one_pos
  | succ k ih => intro n; have h := ih (n / 4); show n % 2 + 2 * ev k (n / 4) < 2 ^ (k + 1); rw [Nat.pow_succ]; omega
theorem mk2_ev : ∀ (k n : Nat), mk2 k (ev k n) (ev k (n / 2)) = n % 4 ^ k := by
  intro k
  induction k with
  | zero => intro n; simp [mk2, Nat.mod_one]
  | succ k ih =>
    intro n
    have h := ih (n / 4)
    have a1 : ev (k + 1) n % 2 = n % 2 := by show (n % 2 + 2 * ev k (n / 4)) % 2 = _; omega
    have a2 : ev (k + 1) n / 2 = ev k (n / 4) := by show (n % 2 + 2 * ev k (n / 4)) / 2 = _; omega
    have a3 : ev (k + 1) (n / 2) % 2 = n / 2 % 2 := by show (n / 2 % 2 + 2 * ev k (n / 2 / 4)) % 2 = _; omega
    have a4 : ev (k + 1) (n / 2) / 2 = ev k (n / 4 / 2) := by
      show (n / 2 % 2 + 2 * ev k (n / 2 / 4)) / 2 = _
      rw [show n / 4 / 2 = n / 2 / 4 by omega]; omega
    show ev (k + 1) n % 2 + 2 * (ev (k + 1) (n / 2) % 2) + 4 * mk2 k (ev (k + 1) n / 2) (ev (k + 1) (n / 2) / 2) = _
    rw [a1, a2, a3, a4, h, Nat.pow_succ, Nat.mul_comm (4 ^ k) 4, Nat.mod_mul]; omega
/-- On one line the one further on has the greater key. -/
theorem mk2_less : ∀ (k x y z : Nat), x < 2 ^ k → y < 2 ^ k → (mk2 k x z < mk2 k y z ↔ x < y) ∧ (mk2 k z x < mk2 k z y ↔ x < y) := by
  intro k
  induction k with
  | zero => intro x y z hx hy; simp at hx hy; subst hx; subst hy; simp
  | succ k ih =>
    intro x y z hx hy
    rw [Nat.pow_succ] at hx hy
    obtain ⟨h1, h2⟩ := ih (x / 2) (y / 2) (z / 2) (by omega) (by omega)
    obtain ⟨h3, h4⟩ := ih (y / 2) (x / 2) (z / 2) (by omega) (by omega)
    constructor
    · show x % 2 + 2 * (z % 2) + 4 * mk2 k (x / 2) (z / 2) < y % 2 + 2 * (z % 2) + 4 * mk2 k (y / 2) (z / 2) ↔ _
      omega
    · show z % 2 + 2 * (x % 2) + 4 * mk2 k (z / 2) (x / 2) < z % 2 + 2 * (y % 2) + 4 * mk2 k (z / 2) (y / 2) ↔ _
      omega
/-- The key of what is left without the lowest bits. -/
theorem mk2_div : ∀ (j k x y : Nat), mk2 (k + j) x y / 4 ^ j = mk2 k (x / 2 ^ j) (y / 2 ^ j) := by
  intro j
  induction j with
  | zero => intro k x y; simp
  | succ j ih =>
    intro k x y
    have e : mk2 (k + (j + 1)) x y / 4 = mk2 (k + j) (x / 2) (y / 2) := by
      show (x % 2 + 2 * (y % 2) + 4 * mk2 (k + j) (x / 2) (y / 2)) / 4 = _; omega
    rw [Nat.pow_succ, Nat.mul_comm (4 ^ j) 4, ← Nat.div_div_eq_div_mul, e, ih, Nat.pow_succ, Nat.mul_comm (2 ^ j) 2, Nat.div_div_eq_div_mul, Nat.div_div_eq_div_mul]
theorem mk2_two : ∀ (k x y : Nat), mk2 k x y = mk2 k x 0 + mk2 k 0 y := by
  intro k
  induction k with
  | zero => intro x y; rfl
  | succ k ih =>
    intro x y
    show x % 2 + 2 * (y % 2) + 4 * mk2 k (x / 2) (y / 2) = (x % 2 + 2 * (0 % 2) + 4 * mk2 k (x / 2) (0 / 2)) + (0 % 2 + 2 * (y % 2) + 4 * mk2 k (0 / 2) (y / 2))
    rw [ih (x / 2) (y / 2), Nat.zero_div]; omega
/-- Bit by bit. -/
theorem mk2_bit : ∀ (k i x y : Nat), (mk2 k x y).testBit (2 * i) = (decide (i < k) && x.testBit i) ∧ (mk2 k x y).testBit (2 * i + 1) = (decide (i < k) && y.testBit i) := by
  intro k
  induction k with
  | zero => intro i x y; simp [mk2]
  | succ k ih =>
    intro i x y
    have e0 : mk2 (k + 1) x y = x % 2 + 2 * (y % 2) + 4 * mk2 k (x / 2) (y / 2) := rfl
    cases i with
    | zero =>
      constructor
      · rw [Nat.mul_zero, Nat.testBit_zero, e0, Nat.testBit_zero]; simp; omega
      · rw [Nat.mul_zero, Nat.zero_add, Nat.testBit_succ, Nat.testBit_zero, e0, Nat.testBit_zero]; simp; omega
    | succ i =>
      obtain ⟨h1, h2⟩ := ih i (x / 2) (y / 2)
      have e1 : mk2 (k + 1) x y / 2 / 2 = mk2 k (x / 2) (y / 2) := by rw [e0]; omega
      constructor
      · rw [show 2 * (i + 1) = 2 * i + 1 + 1 by omega, Nat.testBit_succ, Nat.testBit_succ, e1, h1, Nat.testBit_succ]
        congr 1; simp
      · rw [show 2 * (i + 1) + 1 = 2 * i + 1 + 1 + 1 by omega, Nat.testBit_succ, Nat.testBit_succ, e1, h2, Nat.testBit_succ]
        congr 1; simp
end Go.Proofs.Ytjilnmpajhifcaa
namespace Go.Proofs.Ytjilnmpajhifcaa
theorem mask_ones : ∀ j, j < 64 → Nat.testBit 6148914691236517205 j = decide (j % 2 = 0) := by decide
theorem mask_ones1 : ∀ j, j < 64 → Nat.testBit 6148914691236517205 j = decide (j / 1 % 2 = 0) := by decide
theorem mask_pairs : ∀ j, j < 64 → Nat.testBit 3689348814741910323 j = decide (j / 2 % 2 = 0) := by decide
theorem mask_fours : ∀ j, j < 64 → Nat.testBit 1085102592571150095 j = decide (j / 4 % 2 = 0) := by decide
theorem mask_eights : ∀ j, j < 64 → Nat.testBit 71777214294589695 j = decide (j / 8 % 2 = 0) := by decide
theorem mask_sixteens : ∀ j, j < 64 → Nat.testBit 281470681808895 j = decide (j / 16 % 2 = 0) := by decide
/-- The bits of x stand in blocks of s, with as many places left between. -/
def Sp (s v x : Nat) : Prop := ∀ j, j < 64 → v.testBit j = (decide (j / s % 2 = 0) && x.testBit (j / (2 * s) * s + j % s))
theorem sp_top {x : Nat} (h : x < 4294967296) : Sp 32 x x := by
  intro j hj
  by_cases c : j / 32 % 2 = 0
  · rw [decide_eq_true c, Bool.true_and]; congr 1; omega
  · rw [decide_eq_false c, Bool.false_and]
    exact Nat.testBit_lt_two_pow (Nat.lt_of_lt_of_le h (by
      have := Nat.pow_le_pow_right (n := 2) (by decide) (show 32 ≤ j by omega)
      simpa using this))
theorem sp_step {s v x M : Nat} (hs : s = 1 ∨ s = 2 ∨ s = 4 ∨ s = 8 ∨ s = 16) (hM : ∀ j, j < 64 → Nat.testBit M j = decide (j / s % 2 = 0)) (h : Sp (2 * s) v x) : Sp s ((v ||| v * 2 ^ s) &&& M) x := by
  intro j hj
  rw [Nat.testBit_and, Nat.testBit_or, Nat.testBit_mul_two_pow, hM j hj]
  by_cases c : j / s % 2 = 0
  · rw [decide_eq_true c, Bool.and_true, Bool.true_and, h j hj]
    by_cases d : s ≤ j
    · rw [decide_eq_true d, Bool.true_and, h (j - s) (by omega)]
      by_cases e : j / (2 * s) % 2 = 0
      · rw [decide_eq_true e, Bool.true_and]
        have f : ¬ (j - s) / (2 * s) % 2 = 0 := by rcases hs with rfl | rfl | rfl | rfl | rfl <;> omega
        rw [decide_eq_false f, Bool.false_and, Bool.or_false]
        congr 1
        rcases hs with rfl | rfl | rfl | rfl | rfl <;> omega
      · rw [decide_eq_false e, Bool.false_and, Bool.false_or]
        have f : (j - s) / (2 * s) % 2 = 0 := by rcases hs with rfl | rfl | rfl | rfl | rfl <;> omega
        rw [decide_eq_true f, Bool.true_and]
        congr 1
        rcases hs with rfl | rfl | rfl | rfl | rfl <;> omega
    · rw [decide_eq_false d, Bool.false_and, Bool.or_false]
      have e : j / (2 * s) % 2 = 0 := by rcases hs with rfl | rfl | rfl | rfl | rfl <;> omega
      rw [decide_eq_true e, Bool.true_and]
      congr 1
      rcases hs with rfl | rfl | rfl | rfl | rfl <;> omega
  · rw [decide_eq_false c, Bool.and_false, Bool.false_and]
/-- The bits of n at even places stand in blocks of s, with as many places left between. -/
def Ga (s v n : Nat) : Prop := ∀ j, j < 64 → v.testBit j = (decide (j / s % 2 = 0) && n.testBit (2 * (j / (2 * s) * s + j % s)))
theorem ga_low (n : Nat) : Ga 1 (n &&& 6148914691236517205) n := by
  intro j hj
  rw [Nat.testBit_and, mask_ones j hj, Nat.div_one]
  by_cases c : j % 2 = 0
  · rw [decide_eq_true c, Bool.and_true, Bool.true_and]; congr 1; omega
  · rw [decide_eq_false c, Bool.and_false, Bool.false_and]
theorem ga_step {s v n M : Nat} (hs : s = 1 ∨ s = 2 ∨ s = 4 ∨ s = 8) (hM : ∀ j, j < 64 → Nat.testBit M j = decide (j / (2 * s) % 2 = 0)) (h : Ga s v n) : Ga (2 * s) ((v ||| v / 2 ^ s) &&& M) n := by
  intro j hj
  rw [Nat.testBit_and, Nat.testBit_or, Nat.testBit_div_two_pow, hM j hj]
  by_cases c : j / (2 * s) % 2 = 0
  · rw [decide_eq_true c, Bool.and_true, Bool.true_and, h j hj, h (j + s) (by rcases hs with rfl | rfl | rfl | rfl <;> omega)]
    by_cases e : j / s % 2 = 0
    · have f : ¬ (j + s) / s % 2 = 0 := by rcases hs with rfl | rfl | rfl | rfl <;> omega
      rw [decide_eq_true e, Bool.true_and, decide_eq_false f, Bool.false_and, Bool.or_false]
      congr 1
      rcases hs with rfl | rfl | rfl | rfl <;> omega
    · have f : (j + s) / s % 2 = 0 := by rcases hs with rfl | rfl | rfl | rfl <;> omega
      rw [decide_eq_false e, Bool.false_and, Bool.false_or, decide_eq_true f, Bool.true_and]
      congr 1
      rcases hs with rfl | rfl | rfl | rfl <;> omega
  · rw [decide_eq_false c, Bool.and_false, Bool.false_and]
theorem ev_bit : ∀ (k i n : Nat), (ev k n).testBit i = (decide (i < k) && n.testBit (2 * i)) := by
  intro k
  induction k with
  | zero => intro i n; simp [ev]
  | succ k ih =>
    intro i n
    have e0 : ev (k + 1) n = n % 2 + 2 * ev k (n / 4) := rfl
    cases i with
    | zero => rw [Nat.mul_zero, Nat.testBit_zero, Nat.testBit_zero, e0]; simp
    | succ i =>
      have h1 := ih i (n / 4)
      have e1 : ev (k + 1) n / 2 = ev k (n / 4) := by rw [e0]; omega
      have e2 : n / 2 / 2 = n / 4 := by omega
      rw [Nat.testBit_succ, e1, h1, show 2 * (i + 1) = 2 * i + 1 + 1 by omega, Nat.testBit_succ, Nat.testBit_succ, e2]
      congr 1; simp
theorem bits_eq {a b : Nat} (ha : a < 18446744073709551616) (hb : b < 18446744073709551616) (h : ∀ j, j < 64 → a.testBit j = b.testBit j) : a = b := by
  apply Nat.eq_of_testBit_eq
  intro j
  by_cases c : j < 64
  · exact h j c
  · have hp : 18446744073709551616 ≤ 2 ^ j := by
      have := Nat.pow_le_pow_right (n := 2) (by decide) (show 64 ≤ j by omega)
      simpa using this
    rw [Nat.testBit_lt_two_pow (Nat.lt_of_lt_of_le ha hp), Nat.testBit_lt_two_pow (Nat.lt_of_lt_of_le hb hp)]
/-- A number's bits at the even places. -/
def spr (x : Nat) : Nat := mk2 32 x 0
theorem spr_lt (x : Nat) : spr x < 18446744073709551616 := mk2_lt 32 x 0
theorem sp_end {v x : Nat} (hv : v < 18446744073709551616) (h : Sp 1 v x) : v = spr x := by
  refine bits_eq hv (spr_lt x) fun j hj => ?_
  rw [h j hj, Nat.div_one, Nat.mul_one]
  by_cases c : j % 2 = 0
  · obtain ⟨i, rfl⟩ : ∃ i, j = 2 * i := ⟨j / 2, by omega⟩
    rw [decide_eq_true c, Bool.true_and, show spr x = mk2 32 x 0 from rfl, (mk2_bit 32 i x 0).1, decide_eq_true (by omega), Bool.true_and]
    congr 1; omega
  · obtain ⟨i, rfl⟩ : ∃ i, j = 2 * i + 1 := ⟨j / 2, by omega⟩
    rw [decide_eq_false c, Bool.false_and, show spr x = mk2 32 x 0 from rfl, (mk2_bit 32 i x 0).2, Nat.zero_testBit, Bool.and_false]
theorem or_key (x y : Nat) : spr x ||| spr y * 2 = mk2 32 x y := by
  refine bits_eq ?_ (mk2_lt 32 x y) fun j hj => ?_
  · have h1 := spr_lt x
    have h2 : spr y * 2 < 18446744073709551616 := by
      have e := mk2_two 32 y y
      have f : mk2 32 0 y = spr y * 2 := by
        have : ∀ k y, mk2 k 0 y = mk2 k y 0 * 2 := by
          intro k
          induction k with
          | zero => intro y; rfl
          | succ k ih => intro y; show 0 % 2 + 2 * (y % 2) + 4 * mk2 k (0 / 2) (y / 2) = (y % 2 + 2 * (0 % 2) + 4 * mk2 k (y / 2) (0 / 2)) * 2; rw [Nat.zero_div, ih]; omega
        exact this 32 y
      rw [← f]; exact mk2_lt 32 0 y
    exact Nat.or_lt_two_pow (n := 64) h1 h2
  · rw [Nat.testBit_or, show (2 : Nat) = 2 ^ 1 from rfl, Nat.testBit_mul_two_pow]
    by_cases c : j % 2 = 0
    · obtain ⟨i, rfl⟩ : ∃ i, j = 2 * i := ⟨j / 2, by omega⟩
      rw [show spr x = mk2 32 x 0 from rfl, (mk2_bit 32 i x 0).1, (mk2_bit 32 i x y).1]
      cases i with
      | zero => simp
      | succ i =>
        rw [show 2 * (i + 1) - 1 = 2 * i + 1 by omega, show spr y = mk2 32 y 0 from rfl, (mk2_bit 32 i y 0).2, Nat.zero_testBit]
        simp
    · obtain ⟨i, rfl⟩ : ∃ i, j = 2 * i + 1 := ⟨j / 2, by omega⟩
      rw [show spr x = mk2 32 x 0 from rfl, (mk2_bit 32 i x 0).2, (mk2_bit 32 i x y).2, Nat.zero_testBit, Bool.and_false, Bool.false_or, show 2 * i + 1 - 1 = 2 * i by omega, show spr y = mk2 32 y 0 from rfl, (mk2_bit 32 i y 0).1, decide_eq_true (by omega), Bool.true_and]
theorem ga_end {v n : Nat} (h : Ga 16 v n) : (v ||| v / 2 ^ 16) % 4294967296 = ev 32 n := by
  apply Nat.eq_of_testBit_eq
  intro j
  rw [show (4294967296 : Nat) = 2 ^ 32 from rfl, Nat.testBit_mod_two_pow, Nat.testBit_or, Nat.testBit_div_two_pow, ev_bit]
  by_cases c : j < 32
  · rw [decide_eq_true c, Bool.true_and, Bool.true_and, h j (by omega), h (j + 16) (by omega)]
    by_cases e : j / 16 % 2 = 0
    · rw [decide_eq_true e, Bool.true_and, decide_eq_false (show ¬ (j + 16) / 16 % 2 = 0 by omega), Bool.false_and, Bool.or_false]
      congr 1; omega
    · rw [decide_eq_false e, Bool.false_and, Bool.false_or, decide_eq_true (show (j + 16) / 16 % 2 = 0 by omega), Bool.true_and]
      congr 1; omega
  · rw [decide_eq_false c, Bool.false_and, Bool.false_and]

/-! In words. -/
open Go
theorem or64 {a b : Nat} (ha : a < 18446744073709551616) (hb : b < 18446744073709551616) : bits .or .u64 (a : Int) (b : Int) = ((a ||| b : Nat) : Int) := bits_or_u64_nat a b ha hb
theorem and64 {a b : Nat} (ha : a < 18446744073709551616) (hb : b < 18446744073709551616) : bits .and .u64 (a : Int) (b : Int) = ((a &&& b : Nat) : Int) := bits_and_u64_nat a b ha hb
/-- One step of spreading: what the word is behind it. -/
theorem spread_word {s v x M : Nat} (hs : s = 1 ∨ s = 2 ∨ s = 4 ∨ s = 8 ∨ s = 16) (hM : ∀ j, j < 64 → Nat.testBit M j = decide (j / s % 2 = 0)) (hM2 : M < 18446744073709551616) (hv : v * 2 ^ s < 18446744073709551616) (h : Sp (2 * s) v x) :
    ∃ u : Nat, IntKind.u64.wrap ((v : Int) * ((2 ^ s : Nat) : Int)) = ((v * 2 ^ s : Nat) : Int) ∧ bits .and .u64 (bits .or .u64 (v : Int) ((v * 2 ^ s : Nat) : Int)) (M : Int) = (u : Int) ∧ u ≤ M ∧ Sp s u x := by
  have hv0 : v < 18446744073709551616 := Nat.lt_of_le_of_lt (Nat.le_mul_of_pos_right v (Nat.two_pow_pos s)) hv
  refine ⟨(v ||| v * 2 ^ s) &&& M, ?_, ?_, Nat.and_le_right, sp_step hs hM h⟩
  · rw [wrap_u64, Int.natCast_mul]
    have : ((v * 2 ^ s : Nat) : Int) < 18446744073709551616 := by generalize v * 2 ^ s = t at *; omega
    rw [Int.natCast_mul] at this
    exact Int.emod_eq_of_lt (by omega) this
  · rw [or64 hv0 hv, and64 (Nat.or_lt_two_pow (n := 64) hv0 hv) hM2]
theorem gather_word {s v n M : Nat} (hs : s = 1 ∨ s = 2 ∨ s = 4 ∨ s = 8) (hM : ∀ j, j < 64 → Nat.testBit M j = decide (j / (2 * s) % 2 = 0)) (hM2 : M < 18446744073709551616) (hv : v < 18446744073709551616) (h : Ga s v n) :
    ∃ u : Nat, bits .and .u64 (bits .or .u64 (v : Int) ((v / 2 ^ s : Nat) : Int)) (M : Int) = (u : Int) ∧ u < 18446744073709551616 ∧ Ga (2 * s) u n := by
  have hd : v / 2 ^ s < 18446744073709551616 := Nat.lt_of_le_of_lt (Nat.div_le_self _ _) hv
  refine ⟨(v ||| v / 2 ^ s) &&& M, ?_, Nat.lt_of_le_of_lt Nat.and_le_right hM2, ga_step hs hM h⟩
  rw [or64 hv hd, and64 (Nat.or_lt_two_pow (n := 64) hv hd) hM2]
end Go.Proofs.Ytjilnmpajhifcaa
namespace Go.Proofs.Ytjilnmpajhifcaa
open Go.RowKit
theorem pw16 : ((2 ^ 16 : Nat) : Int) = 65536 := rfl
theorem pw8 : ((2 ^ 8 : Nat) : Int) = 256 := rfl
theorem pw4 : ((2 ^ 4 : Nat) : Int) = 16 := rfl
theorem pw2 : ((2 ^ 2 : Nat) : Int) = 4 := rfl
theorem pw1 : ((2 ^ 1 : Nat) : Int) = 2 := rfl
theorem wrap_u32 (n : Int) : IntKind.u32.wrap n = n % 4294967296 := by
  simp [IntKind.wrap, IntKind.bits, IntKind.signed]
/-- The key of two numbers. -/
def key (x y : Int) : Int := (mk2 32 x.toNat y.toNat : Int)
theorem spr_twice (y : Nat) : spr y * 2 < 18446744073709551616 := by
  have f : ∀ k y, mk2 k 0 y = mk2 k y 0 * 2 := by
    intro k
    induction k with
    | zero => intro y; rfl
    | succ k ih => intro y; show 0 % 2 + 2 * (y % 2) + 4 * mk2 k (0 / 2) (y / 2) = (y % 2 + 2 * (0 % 2) + 4 * mk2 k (y / 2) (0 / 2)) * 2; rw [Nat.zero_div, ih]; omega
  show mk2 32 y 0 * 2 < _
  rw [← f]; exact mk2_lt 32 0 y
theorem key_wd (x y : Int) : Wd (key x y) := by
  have h := mk2_lt 32 x.toNat y.toNat
  unfold key; exact ⟨by omega, by simp only [Nat.reducePow] at h; omega⟩
end Go.Proofs.Ytjilnmpajhifcaa
namespace Go.Proofs.Ytjilnmpajhifcaa
open Go.RowKit
/-- A place's cell on its line. -/
def cl1 (h : Int) : Int := if h < -2147483648 then 0 else if 2147483647 < h then 4294967295 else h + 2147483648
theorem cl1_hf (h : Int) : Hf (cl1 h) := by unfold cl1 Hf; split <;> (try split) <;> omega
theorem or_low {a b : Nat} (k : Nat) (h : b < 2 ^ k) : b ||| a * 2 ^ k = b + a * 2 ^ k := by
  rw [Nat.or_comm, Nat.mul_comm, ← Nat.two_pow_add_eq_or_of_lt h, Nat.add_comm]
theorem four_pow (i : Nat) : 4 ^ i = 2 ^ (2 * i) := by rw [Nat.pow_mul]
end Go.Proofs.Ytjilnmpajhifcaa
