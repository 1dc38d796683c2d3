/- Long division by halves: the arithmetic. No program here. -/
import Derived.Test.YtmelipbanbihdaaNum
namespace Go.Proofs.Ytmelipbanbihdaa

def hv4 (a b c d : Int) : Int := a + b * 4294967296 + c * 18446744073709551616 + d * 79228162514264337593543950336
def hv5 (a b c d e : Int) : Int := hv4 a b c d + e * 340282366920938463463374607431768211456

/-- What the search for a half of the quotient keeps. -/
structure Guess (T N Vl U r2 Rl t left : Int) : Prop where
  t0 : 0 ≤ t
  l0 : 0 ≤ left
  sum : t * T + left = U
  above : U * 79228162514264337593543950336 + r2 * 18446744073709551616 + Rl < t * (T * 79228162514264337593543950336 + N * 18446744073709551616 + Vl) + (T * 79228162514264337593543950336 + N * 18446744073709551616 + Vl)
/-- The fixed numbers of that search. -/
structure GuessIn (T N Vl U r2 Rl : Int) : Prop where
  T0 : 2147483648 ≤ T
  T1 : T < 4294967296
  N0 : 0 ≤ N
  N1 : N < 4294967296
  V0 : 0 ≤ Vl
  V1 : Vl < 18446744073709551616
  r0 : 0 ≤ r2
  r1 : r2 < 4294967296
  R0 : 0 ≤ Rl
  R1 : Rl < 18446744073709551616
  U0 : 0 ≤ U
  U1 : U < T * 4294967296 + 4294967296
  less : U * 79228162514264337593543950336 + r2 * 18446744073709551616 + Rl < (T * 79228162514264337593543950336 + N * 18446744073709551616 + Vl) * 4294967296

theorem mul_out (t T N Vl : Int) : t * (T * 79228162514264337593543950336 + N * 18446744073709551616 + Vl) = t * T * 79228162514264337593543950336 + t * N * 18446744073709551616 + t * Vl := by
  rw [Int.mul_add, Int.mul_add, Int.mul_assoc, Int.mul_assoc]

theorem Guess.start {T N Vl U r2 Rl : Int} (g : GuessIn T N Vl U r2 Rl) : Guess T N Vl U r2 Rl (U / T) (U % T) := by
  obtain ⟨T0, T1, N0, N1, V0, V1, r0, r1, R0, R1, U0, U1, less⟩ := g
  have h1 := Int.mul_ediv_add_emod U T
  have h2 := Int.emod_lt_of_pos U (show 0 < T by omega)
  have h3 := Int.emod_nonneg U (show T ≠ 0 by omega)
  have h4 : 0 ≤ U / T := Int.ediv_nonneg U0 (by omega)
  rw [Int.mul_comm] at h1
  refine ⟨h4, h3, h1, ?_⟩
  generalize U / T = t at *
  generalize U % T = l at *
  have p1 : 0 ≤ t * N := Int.mul_nonneg h4 N0
  have p2 : 0 ≤ t * Vl := Int.mul_nonneg h4 V0
  rw [mul_out]
  omega
/-- One less: where the number is too great. -/
theorem Guess.down {T N Vl U r2 Rl t left : Int} (g : GuessIn T N Vl U r2 Rl) (h : Guess T N Vl U r2 Rl t left) (hc : 4294967296 ≤ t ∨ left * 4294967296 + r2 < t * N) : 1 ≤ t ∧ Guess T N Vl U r2 Rl (t - 1) (left + T) := by
  obtain ⟨T0, T1, N0, N1, V0, V1, r0, r1, R0, R1, U0, U1, less⟩ := g
  obtain ⟨t0, l0, hs, ha⟩ := h
  have p2 : 0 ≤ t * Vl := Int.mul_nonneg t0 V0
  have key : U * 79228162514264337593543950336 + r2 * 18446744073709551616 + Rl < t * (T * 79228162514264337593543950336 + N * 18446744073709551616 + Vl) := by
    rcases hc with hc | hc
    · have := Int.mul_le_mul_of_nonneg_right hc (show 0 ≤ T * 79228162514264337593543950336 + N * 18446744073709551616 + Vl by omega)
      omega
    · rw [mul_out]; omega
  have h1 : 1 ≤ t := by
    rcases (show t = 0 ∨ 1 ≤ t by omega) with h | h
    · rw [h, Int.zero_mul] at key; omega
    · exact h
  refine ⟨h1, ⟨by omega, by omega, ?_, ?_⟩⟩
  · rw [Int.sub_mul]; omega
  · rw [Int.sub_mul]; omega
/-- The end: the number is right, or one too great. -/
theorem Guess.stop {T N Vl U r2 Rl t left : Int} (g : GuessIn T N Vl U r2 Rl) (h : Guess T N Vl U r2 Rl t left) (h1 : t < 4294967296) (h2 : t * N ≤ left * 4294967296 + r2) :
    t * (T * 79228162514264337593543950336 + N * 18446744073709551616 + Vl) < U * 79228162514264337593543950336 + r2 * 18446744073709551616 + Rl + (T * 79228162514264337593543950336 + N * 18446744073709551616 + Vl) := by
  obtain ⟨T0, T1, N0, N1, V0, V1, r0, r1, R0, R1, U0, U1, less⟩ := g
  obtain ⟨t0, l0, hs, ha⟩ := h
  have p2 : t * Vl ≤ t * 18446744073709551616 := Int.mul_le_mul_of_nonneg_left (by omega) t0
  rw [mul_out]
  omega
theorem Guess.far {T N Vl U r2 Rl t left : Int} (g : GuessIn T N Vl U r2 Rl) (h : Guess T N Vl U r2 Rl t left) (h1 : 4294967296 ≤ left) : t < 4294967296 ∧ t * N ≤ left * 4294967296 + r2 := by
  obtain ⟨T0, T1, N0, N1, V0, V1, r0, r1, R0, R1, U0, U1, less⟩ := g
  obtain ⟨t0, l0, hs, ha⟩ := h
  have ht : t < 4294967296 := by
    rcases (show t < 4294967296 ∨ 4294967296 ≤ t by omega) with h | h
    · exact h
    · have := Int.mul_le_mul_of_nonneg_right h (show 0 ≤ T by omega)
      omega
  have p := Int.mul_le_mul_of_nonneg_left (show N ≤ 4294967296 by omega) t0
  exact ⟨ht, by omega⟩
end Go.Proofs.Ytmelipbanbihdaa
