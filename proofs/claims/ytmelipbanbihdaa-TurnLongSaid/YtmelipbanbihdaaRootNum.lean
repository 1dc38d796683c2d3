/- Roots: the arithmetic. No program here. -/
import Derived.Test.YtmelipbanbihdaaShift
namespace Go.Proofs.Ytmelipbanbihdaa

/-- The greatest number whose square is at most n. -/
def isq : Nat → Nat
  | 0 => 0
  | n + 1 => if (isq n + 1) * (isq n + 1) ≤ n + 1 then isq n + 1 else isq n
theorem isq_spec (n : Nat) : isq n * isq n ≤ n ∧ n < (isq n + 1) * (isq n + 1) := by
  induction n with
  | zero => exact ⟨by decide, by decide⟩
  | succ n ih =>
    obtain ⟨h1, h2⟩ := ih
    unfold isq
    generalize isq n = r at *
    by_cases c : (r + 1) * (r + 1) ≤ n + 1
    · rw [if_pos c]
      refine ⟨c, ?_⟩
      have : (r + 1 + 1) * (r + 1 + 1) = (r + 1) * (r + 1) + 2 * (r + 1) + 1 := by
        simp only [Nat.add_mul, Nat.mul_add]; omega
      omega
    · rw [if_neg c]
      exact ⟨by omega, by omega⟩
theorem isq_of {n r : Nat} (h1 : r * r ≤ n) (h2 : n < (r + 1) * (r + 1)) : isq n = r := by
  obtain ⟨a, b⟩ := isq_spec n
  generalize isq n = s at *
  rcases (show s < r ∨ s = r ∨ r < s by omega) with h | h | h
  · have := Nat.mul_le_mul (show s + 1 ≤ r from h) (show s + 1 ≤ r from h); omega
  · exact h
  · have := Nat.mul_le_mul (show r + 1 ≤ s from h) (show r + 1 ≤ s from h); omega
theorem isq_le {n s : Nat} (h : n < (s + 1) * (s + 1)) : isq n ≤ s := by
  obtain ⟨a, b⟩ := isq_spec n
  generalize isq n = r at *
  rcases (show r ≤ s ∨ s + 1 ≤ r by omega) with h' | h'
  · exact h'
  · have := Nat.mul_le_mul h' h'; omega
theorem isq_lt {n k : Nat} (h : n < k * k) : isq n < k := by
  obtain ⟨a, b⟩ := isq_spec n
  generalize isq n = r at *
  rcases (show r < k ∨ k ≤ r by omega) with h' | h'
  · exact h'
  · have := Nat.mul_le_mul h' h'; omega

/-- What the search for a word's root keeps: j bits are still to come, s is the root so far. -/
def RW (n : Nat) (W R B : Int) : Prop := ∃ j s : Nat, j ≤ 32 ∧ s < 4294967296 ∧ s % 2 ^ j = 0 ∧ s * s ≤ n ∧ n < (s + 2 ^ j) * (s + 2 ^ j) ∧ W = ((n - s * s : Nat) : Int) ∧ R = ((s * 2 ^ j : Nat) : Int) ∧ B = ((4 ^ j / 4 : Nat) : Int)
theorem RW_start {n : Nat} (h : n < 18446744073709551616) : RW n n 0 4611686018427387904 := by
  refine ⟨32, 0, by decide, by decide, by decide, by omega, ?_, by simp, by simp, by decide⟩
  rw [show (0 + 2 ^ 32) * (0 + 2 ^ 32) = 18446744073709551616 by decide]
  exact h
theorem RW_end {n : Nat} {W R : Int} (h : RW n W R 0) : R = ((isq n : Nat) : Int) := by
  obtain ⟨j, s, hj, hs, hm, h1, h2, hW, hR, hB⟩ := h
  have hB' : 4 ^ j / 4 = 0 := by omega
  have : j = 0 := by
    rcases (show j = 0 ∨ 1 ≤ j by omega) with h | h
    · exact h
    · have : 4 ^ 1 ≤ 4 ^ j := Nat.pow_le_pow_right (by decide) h
      omega
  subst this
  rw [hR, isq_of h1 (by simpa using h2)]; simp
/-- One bit: what stands in the way of the words' own operations is nothing. -/
theorem RW_bits {n : Nat} {W R B : Int} (hn : n < 18446744073709551616) (h : RW n W R B) (hB : B ≠ 0) :
    bits .or .u64 R B = R + B ∧ bits .or .u64 (R / 2) B = R / 2 + B ∧ 0 ≤ W ∧ W < 18446744073709551616 ∧ 0 ≤ R ∧ R + B < 18446744073709551616 ∧ 1 ≤ B ∧
    (R + B ≤ W → RW n (W - (R + B)) (R / 2 + B) (B / 4)) ∧ (W < R + B → RW n W (R / 2) (B / 4)) := by
  obtain ⟨j, s, hj, hs, hm, h1, h2, hW, hR, hB'⟩ := h
  have hj1 : 1 ≤ j := by
    rcases (show j = 0 ∨ 1 ≤ j by omega) with h | h
    · subst h; exact absurd (by rw [hB']; rfl) hB
    · exact h
  obtain ⟨k, rfl⟩ : ∃ k, j = k + 1 := ⟨j - 1, by omega⟩
  have e4 : 4 ^ (k + 1) / 4 = 4 ^ k := by rw [Nat.pow_succ, Nat.mul_div_cancel _ (by decide)]
  have e4' : (4 : Nat) ^ k = 2 ^ k * 2 ^ k := by rw [show (4 : Nat) = 2 * 2 by decide, Nat.mul_pow]
  have hk : k ≤ 31 := by omega
  have hp := Nat.two_pow_pos k
  have hp31 : 2 ^ k ≤ 2147483648 := by
    rw [show (2147483648 : Nat) = 2 ^ 31 by decide]; exact Nat.pow_le_pow_right (by decide) hk
  have hBk : B = ((2 ^ k * 2 ^ k : Nat) : Int) := by rw [hB', e4, e4']
  obtain ⟨m, rfl⟩ : ∃ m, s = m * 2 ^ (k + 1) := ⟨s / 2 ^ (k + 1), by have := Nat.div_add_mod s (2 ^ (k + 1)); rw [Nat.mul_comm]; omega⟩
  have h2k : (2 : Nat) ^ (k + 1) = 2 * 2 ^ k := by rw [Nat.pow_succ, Nat.mul_comm]
  have hM : 2 ^ (31 - k) * (2 * 2 ^ k) = 4294967296 := by
    rw [← h2k, ← Nat.pow_add, show 31 - k + (k + 1) = 32 by omega]
  have hi : 2 ^ (2 * k + 1) = 2 * (2 ^ k * 2 ^ k) := by rw [Nat.pow_succ, Nat.two_mul, Nat.pow_add, Nat.mul_comm]
  rw [h2k] at hs hm h1 h2 hW hR
  have ek : 4 ^ (k + 1) / 4 / 4 = 4 ^ k / 4 := by rw [e4]
  have hmM : m < 2 ^ (31 - k) := Nat.lt_of_mul_lt_mul_right (by rw [hM]; exact hs)
  have hs2 : m * (2 * 2 ^ k) + 2 * 2 ^ k ≤ 4294967296 := by
    rw [← hM]
    have := Nat.mul_le_mul_right (2 * 2 ^ k) hmM
    rw [Nat.succ_mul] at this
    exact this
  have hR4 : m * (2 * 2 ^ k) * (2 * 2 ^ k) = 4 * (m * (2 ^ k * 2 ^ k)) := by
    generalize (2 : Nat) ^ k = P
    rw [Nat.mul_assoc, show 2 * P * (2 * P) = 4 * (P * P) by rw [Nat.mul_assoc, Nat.mul_left_comm P, ← Nat.mul_assoc 2 2], Nat.mul_left_comm]
  have hRB : 4 * (m * (2 ^ k * 2 ^ k)) + 4 * (2 ^ k * 2 ^ k) ≤ 8589934592 * 2 ^ k := by
    have := Nat.mul_le_mul_right (2 * 2 ^ k) hs2
    rw [Nat.add_mul, hR4] at this
    generalize (2 : Nat) ^ k = P at *
    have e : 2 * P * (2 * P) = 4 * (P * P) := by rw [Nat.mul_assoc, Nat.mul_left_comm P, ← Nat.mul_assoc 2 2]
    omega
  have hnext : (m * (2 * 2 ^ k) + 2 ^ k) * (m * (2 * 2 ^ k) + 2 ^ k) = m * (2 * 2 ^ k) * (m * (2 * 2 ^ k)) + (4 * (m * (2 ^ k * 2 ^ k)) + 2 ^ k * 2 ^ k) := by
    generalize (2 : Nat) ^ k = P
    have e1 : m * (2 * P) * P = 2 * (m * (P * P)) := by rw [Nat.mul_assoc, Nat.mul_assoc, Nat.mul_left_comm]
    have e2 : P * (m * (2 * P)) = 2 * (m * (P * P)) := by rw [Nat.mul_comm, e1]
    rw [Nat.add_mul, Nat.mul_add, Nat.mul_add, e1, e2]; omega
  rw [hR4] at hR
  have hQ1 := Nat.mul_pos hp hp
  have hs3 : m * (2 * 2 ^ k) + 2 ^ k < 4294967296 := by omega
  have hmod : (m * (2 * 2 ^ k) + 2 ^ k) % 2 ^ k = 0 := by
    rw [← Nat.mul_assoc, Nat.add_mod_right, Nat.mul_mod_left]
  have hmod0 : m * (2 * 2 ^ k) % 2 ^ k = 0 := by rw [← Nat.mul_assoc, Nat.mul_mod_left]
  have hnew : (m * (2 * 2 ^ k) + 2 ^ k) * 2 ^ k = 2 * (m * (2 ^ k * 2 ^ k)) + 2 ^ k * 2 ^ k := by
    generalize (2 : Nat) ^ k = P
    rw [Nat.add_mul, Nat.mul_assoc, Nat.mul_assoc, Nat.mul_left_comm]
  have hold : m * (2 * 2 ^ k) * 2 ^ k = 2 * (m * (2 ^ k * 2 ^ k)) := by
    generalize (2 : Nat) ^ k = P
    rw [Nat.mul_assoc, Nat.mul_assoc, Nat.mul_left_comm]
  have htwo : m * (2 * 2 ^ k) + 2 * 2 ^ k = m * (2 * 2 ^ k) + 2 ^ k + 2 ^ k := by omega
  rw [htwo] at h2
  have hdv1 : ((4 * (m * (2 ^ k * 2 ^ k)) : Nat) : Int) % 2 ^ (2 * k + 1) = 0 := by
    have : (4 * (m * (2 ^ k * 2 ^ k))) % 2 ^ (2 * k + 1) = 0 := by
      rw [hi, show 4 * (m * (2 ^ k * 2 ^ k)) = 2 * m * (2 * (2 ^ k * 2 ^ k)) by generalize (2 ^ k * 2 ^ k : Nat) = Q; rw [Nat.mul_assoc 2 m, Nat.mul_left_comm m, ← Nat.mul_assoc 2 2], Nat.mul_mod_left]
    exact_mod_cast this
  have hdv2 : ((2 * (m * (2 ^ k * 2 ^ k)) : Nat) : Int) % 2 ^ (2 * k + 1) = 0 := by
    have : (2 * (m * (2 ^ k * 2 ^ k))) % 2 ^ (2 * k + 1) = 0 := by
      rw [hi, show 2 * (m * (2 ^ k * 2 ^ k)) = m * (2 * (2 ^ k * 2 ^ k)) by rw [Nat.mul_left_comm], Nat.mul_mod_left]
    exact_mod_cast this
  have hlt : ((2 ^ k * 2 ^ k : Nat) : Int) < 2 ^ (2 * k + 1) := by
    have : 2 ^ k * 2 ^ k < 2 ^ (2 * k + 1) := by rw [hi]; omega
    exact_mod_cast this
  have hPP : 2 ^ k * 2 ^ k ≤ 4611686018427387904 := Nat.mul_le_mul hp31 hp31
  refine ⟨?_, ?_, ?_, ?_, ?_, ?_, ?_, fun hle => ?_, fun hlt => ?_⟩
  · rw [hR, hBk]
    generalize m * (2 ^ k * 2 ^ k) = mQ at *
    generalize 2 ^ k * 2 ^ k = Q at *
    rw [bits_join .u64 64 (by decide) (fun n h0 h1 => IntWalk.u64_in n (by omega)) (2 * k + 1) _ _ (by omega) hdv1 (by omega) (by omega) hlt (by omega)]
  · have hR2 : R / 2 = ((2 * (m * (2 ^ k * 2 ^ k)) : Nat) : Int) := by rw [hR]; omega
    rw [hR2, hBk]
    generalize m * (2 ^ k * 2 ^ k) = mQ at *
    generalize 2 ^ k * 2 ^ k = Q at *
    rw [bits_join .u64 64 (by decide) (fun n h0 h1 => IntWalk.u64_in n (by omega)) (2 * k + 1) _ _ (by omega) hdv2 (by omega) (by omega) hlt (by omega)]
  · rw [hW]; omega
  · rw [hW]; omega
  · rw [hR]; omega
  · rw [hR, hBk]
    generalize m * (2 ^ k * 2 ^ k) = mQ at *
    generalize 2 ^ k * 2 ^ k = Q at *
    omega
  · rw [hBk]; omega
  · refine ⟨k, m * (2 * 2 ^ k) + 2 ^ k, by omega, hs3, hmod, ?_, h2, ?_, ?_, ?_⟩
    · rw [hnext]; rw [hW, hR, hBk] at hle; omega
    · rw [hnext, hW, hR, hBk]; rw [hW, hR, hBk] at hle; omega
    · rw [hnew, hR, hBk]; omega
    · rw [hB', ← ek]; rfl
  · refine ⟨k, m * (2 * 2 ^ k), by omega, hs, hmod0, h1, ?_, hW, ?_, ?_⟩
    · rw [hnext]; rw [hW, hR, hBk] at hlt; omega
    · rw [hold, hR]; omega
    · rw [hB', ← ek]; rfl
end Go.Proofs.Ytmelipbanbihdaa
