/- Roots of wide numbers: the arithmetic. No program here. -/
import Derived.Test.YtmelipbanbihdaaRootNum
namespace Go.Proofs.Ytmelipbanbihdaa

theorem four_mul_le {x y : Nat} (h : x ≤ y) : 4 * (x * y) ≤ (x + y) * (x + y) := by
  obtain ⟨d, rfl⟩ := Nat.exists_eq_add_of_le h
  simp only [Nat.add_mul, Nat.mul_add]
  rw [Nat.mul_comm d x]
  omega
theorem four_mul (x y : Nat) : 4 * (x * y) ≤ (x + y) * (x + y) := by
  rcases Nat.le_total x y with h | h
  · exact four_mul_le h
  · rw [Nat.mul_comm x y, Nat.add_comm x y]; exact four_mul_le h
/-- The mean of s and n over s is never below the root. -/
theorem mean_ge {n s : Nat} (hs : s ≠ 0) : isq n ≤ (s + n / s) / 2 := by
  obtain ⟨a, -⟩ := isq_spec n
  generalize isq n = r at *
  have h1 : n < (n / s + 1) * s := by
    have := Nat.div_add_mod n s
    have := Nat.mod_lt n (show 0 < s by omega)
    rw [Nat.add_mul, Nat.mul_comm (n / s)]; omega
  generalize n / s = q at *
  rcases (show r ≤ (s + q) / 2 ∨ s + q + 1 ≤ 2 * r by omega) with h | h
  · exact h
  · have h2 := four_mul (q + 1) s
    have h3 := Nat.mul_le_mul (show q + 1 + s ≤ 2 * r by omega) (show q + 1 + s ≤ 2 * r by omega)
    have h4 : 2 * r * (2 * r) = 4 * (r * r) := by rw [Nat.mul_assoc, Nat.mul_left_comm r, ← Nat.mul_assoc 2 2]
    omega
/-- Where it falls no more, it is the root. -/
theorem root_there {n s : Nat} (_ : s ≠ 0) (h1 : isq n ≤ s) (h2 : s ≤ n / s) : isq n = s := by
  obtain ⟨-, b⟩ := isq_spec n
  refine isq_of ?_ ?_
  · have := Nat.mul_le_mul_right s h2
    exact Nat.le_trans this (Nat.div_mul_le_self n s)
  · have := Nat.mul_le_mul (show isq n + 1 ≤ s + 1 by omega) (show isq n + 1 ≤ s + 1 by omega)
    omega
/-- From what the search sets out. -/
def abv (n : Nat) : Nat := if (isq (n / 2 ^ (2 * (blen n / 4))) + 1) * 2 ^ (blen n / 4) < 340282366920938463463374607431768211456 then (isq (n / 2 ^ (2 * (blen n / 4))) + 1) * 2 ^ (blen n / 4) else 340282366920938463463374607431768211455
theorem up_pow (k : Nat) : (2 : Nat) ^ (2 * k) = 2 ^ k * 2 ^ k := by rw [Nat.two_mul, Nat.pow_add]
theorem isq_up (n k : Nat) : isq n < (isq (n / 2 ^ (2 * k)) + 1) * 2 ^ k := by
  apply isq_lt
  obtain ⟨-, b⟩ := isq_spec (n / 2 ^ (2 * k))
  generalize isq (n / 2 ^ (2 * k)) = r at *
  have hp := Nat.two_pow_pos (2 * k)
  have h1 : n < ((r + 1) * (r + 1)) * 2 ^ (2 * k) := by
    rw [Nat.div_lt_iff_lt_mul hp] at b; exact b
  rw [up_pow] at h1
  calc n < (r + 1) * (r + 1) * (2 ^ k * 2 ^ k) := h1
    _ = (r + 1) * 2 ^ k * ((r + 1) * 2 ^ k) := Nat.mul_mul_mul_comm _ _ _ _
theorem isq_128 {n : Nat} (h : n < 115792089237316195423570985008687907853269984665640564039457584007913129639936) : isq n < 340282366920938463463374607431768211456 := isq_lt (by omega)
theorem abv_ok {n : Nat} (h : n < 115792089237316195423570985008687907853269984665640564039457584007913129639936) : isq n ≤ abv n ∧ abv n ≠ 0 ∧ abv n < 340282366920938463463374607431768211456 := by
  have h1 := isq_up n (blen n / 4)
  have h2 := isq_128 h
  unfold abv
  split <;> refine ⟨?_, ?_, ?_⟩ <;> omega
/-- The root of the upper part has room for one more. -/
theorem up_room {n : Nat} (h : n < 115792089237316195423570985008687907853269984665640564039457584007913129639936) (hl : 64 < blen n) : isq (n / 2 ^ (2 * (blen n / 4))) + 1 < 340282366920938463463374607431768211456 ∧ n / 2 ^ (2 * (blen n / 4)) < n := by
  have hb := blen_le (n := n) (k := 256) (by rw [show (2 : Nat) ^ 256 = 115792089237316195423570985008687907853269984665640564039457584007913129639936 by decide]; exact h)
  have hn : n ≠ 0 := fun e => by subst e; simp [blen] at hl
  have hp : 2 ^ 32 ≤ 2 ^ (2 * (blen n / 4)) := Nat.pow_le_pow_right (by decide) (by omega)
  constructor
  · have h1 : n / 2 ^ (2 * (blen n / 4)) < 26959946667150639794667015087019630673637144422540572481103610249216 := by
      rw [Nat.div_lt_iff_lt_mul (by omega)]
      have := Nat.mul_le_mul_left 26959946667150639794667015087019630673637144422540572481103610249216 hp
      omega
    have := isq_lt (n := n / 2 ^ (2 * (blen n / 4))) (k := 5192296858534827628530496329220096) (by omega)
    omega
  · exact Nat.div_lt_self (by omega) (by omega)
end Go.Proofs.Ytmelipbanbihdaa
