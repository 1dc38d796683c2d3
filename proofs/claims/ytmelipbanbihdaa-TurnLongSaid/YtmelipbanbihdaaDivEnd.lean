/- Long division by halves: from the halves to the numbers. No program here. -/
import Derived.Test.YtmelipbanbihdaaDivNum
import Derived.Test.YtmelipbanbihdaaShift
namespace Go.Proofs.Ytmelipbanbihdaa

theorem hv4_two {h l : Int} (hh : Wd h) (hl : Wd l) : hv4 (l % 4294967296) (l / 4294967296) (h % 4294967296) (h / 4294967296) = ((v2 h l : Nat) : Int) := by
  obtain ⟨_, _⟩ := hh; obtain ⟨_, _⟩ := hl
  unfold hv4 v2; omega
theorem hf_lo {x : Int} (h : Wd x) : Hf (x % 4294967296) := by obtain ⟨_, _⟩ := h; exact ⟨by omega, by omega⟩
theorem hf_hi {x : Int} (h : Wd x) : Hf (x / 4294967296) := by obtain ⟨_, _⟩ := h; exact ⟨by omega, by omega⟩
/-- The divisor, its top bit set. -/
theorem top_set {n : Nat} (h0 : n ≠ 0) (h1 : n < 340282366920938463463374607431768211456) : n * 2 ^ (128 - blen n) < 340282366920938463463374607431768211456 ∧ 170141183460469231731687303715884105728 ≤ n * 2 ^ (128 - blen n) := by
  have a := blen_lt n
  have b := blen_ge h0
  have c : blen n ≤ 128 := blen_le (by rw [show (2 : Nat) ^ 128 = 340282366920938463463374607431768211456 by decide]; exact h1)
  have hp := Nat.two_pow_pos (128 - blen n)
  constructor
  · have := Nat.mul_lt_mul_of_pos_right a hp
    rw [← Nat.pow_add, show blen n + (128 - blen n) = 128 by omega] at this
    exact this
  · have := Nat.mul_le_mul_right (2 ^ (128 - blen n)) b.2
    rw [← Nat.pow_add, show blen n - 1 + (128 - blen n) = 127 by omega] at this
    exact this
theorem v2_small {n : Nat} (h : n < 340282366920938463463374607431768211456) : v2 (wd n 1) (wd n 0) = n := by rw [v2_wd]; omega
/-- What is divided, of twelve halves. -/
theorem twelve_sum {A n : Nat} (hA : A < 115792089237316195423570985008687907853269984665640564039457584007913129639936) (hn : n ≤ 128) :
    ((v4 (wd (A * 2 ^ n) 3) (wd (A * 2 ^ n) 2) (wd (A * 2 ^ n) 1) (wd (A * 2 ^ n) 0) : Nat) : Int) + ((v2 (wd (A / 2 ^ (256 - n)) 1) (wd (A / 2 ^ (256 - n)) 0) : Nat) : Int) * 115792089237316195423570985008687907853269984665640564039457584007913129639936 = ((A * 2 ^ n : Nat) : Int) := by
  have hs : (2 : Nat) ^ (256 - n) * 2 ^ n = 115792089237316195423570985008687907853269984665640564039457584007913129639936 := by
    rw [← Nat.pow_add, show 256 - n + n = 256 by omega]
  have hp := Nat.two_pow_pos n
  have hd : A / 2 ^ (256 - n) = A * 2 ^ n / 115792089237316195423570985008687907853269984665640564039457584007913129639936 := by
    rw [← hs, Nat.mul_div_mul_right _ _ hp]
  have hl : A / 2 ^ (256 - n) < 340282366920938463463374607431768211456 := by
    rw [Nat.div_lt_iff_lt_mul (Nat.two_pow_pos _)]
    refine Nat.lt_of_lt_of_le hA ?_
    rw [show (115792089237316195423570985008687907853269984665640564039457584007913129639936 : Nat) = 340282366920938463463374607431768211456 * 2 ^ 128 by decide]
    exact Nat.mul_le_mul_left _ (Nat.pow_le_pow_right (by decide) (by omega))
  rw [v4_wd, v2_wd, Nat.mod_eq_of_lt hl, hd]
  generalize A * 2 ^ n = N
  omega
/-- The upper halves of what is divided are below the divisor. -/
theorem upper_less {A b n : Nat} (hA : A < 115792089237316195423570985008687907853269984665640564039457584007913129639936) (hn : n ≤ 127) (hV : 170141183460469231731687303715884105728 ≤ b * 2 ^ n) :
    A / 2 ^ (256 - n) < b * 2 ^ n := by
  refine Nat.lt_of_lt_of_le ?_ hV
  rw [Nat.div_lt_iff_lt_mul (Nat.two_pow_pos _)]
  refine Nat.lt_of_lt_of_le hA ?_
  rw [show (115792089237316195423570985008687907853269984665640564039457584007913129639936 : Nat) = 170141183460469231731687303715884105728 * 2 ^ 129 by decide]
  exact Nat.mul_le_mul_left _ (Nat.pow_le_pow_right (by decide) (by omega))

/-- One step: the rest behind it. -/
theorem step_of {x y0 y1 y2 y3 y4 p0 p1 p2 p3 q V : Int} (h0 : Hf y0) (h1 : Hf y1) (h2 : Hf y2) (h3 : Hf y3) (h4 : Hf y4) (hV : V < 340282366920938463463374607431768211456)
    (e : hv5 y0 y1 y2 y3 y4 = hv5 x p0 p1 p2 p3 - q * V) (l : hv5 y0 y1 y2 y3 y4 < V) : y4 = 0 ∧ hv4 y0 y1 y2 y3 = x + 4294967296 * hv4 p0 p1 p2 p3 - q * V ∧ hv4 y0 y1 y2 y3 < V := by
  obtain ⟨_, _⟩ := h0; obtain ⟨_, _⟩ := h1; obtain ⟨_, _⟩ := h2; obtain ⟨_, _⟩ := h3; obtain ⟨_, _⟩ := h4
  unfold hv5 hv4 at *
  have : y4 = 0 := by omega
  subst this
  exact ⟨rfl, by omega, by omega⟩
def quo (q0 q1 q2 q3 q4 q5 q6 q7 : Int) : Int := hv4 q0 q1 q2 q3 + hv4 q4 q5 q6 q7 * 340282366920938463463374607431768211456
/-- All steps together. -/
theorem steps_sum {x0 x1 x2 x3 x4 x5 x6 x7 x8 x9 x10 x11 V q0 q1 q2 q3 q4 q5 q6 q7 r0 r1 r2 r3 r4 r5 r6 r7 : Int}
    (e7 : r7 = x7 + 4294967296 * hv4 x8 x9 x10 x11 - q7 * V) (e6 : r6 = x6 + 4294967296 * r7 - q6 * V) (e5 : r5 = x5 + 4294967296 * r6 - q5 * V) (e4 : r4 = x4 + 4294967296 * r5 - q4 * V)
    (e3 : r3 = x3 + 4294967296 * r4 - q3 * V) (e2 : r2 = x2 + 4294967296 * r3 - q2 * V) (e1 : r1 = x1 + 4294967296 * r2 - q1 * V) (e0 : r0 = x0 + 4294967296 * r1 - q0 * V) :
    hv4 x0 x1 x2 x3 + hv4 x4 x5 x6 x7 * 340282366920938463463374607431768211456 + hv4 x8 x9 x10 x11 * 115792089237316195423570985008687907853269984665640564039457584007913129639936 = quo q0 q1 q2 q3 q4 q5 q6 q7 * V + r0 := by
  have e : quo q0 q1 q2 q3 q4 q5 q6 q7 * V = q0 * V + q1 * V * 4294967296 + q2 * V * 18446744073709551616 + q3 * V * 79228162514264337593543950336 + (q4 * V + q5 * V * 4294967296 + q6 * V * 18446744073709551616 + q7 * V * 79228162514264337593543950336) * 340282366920938463463374607431768211456 := by
    unfold quo hv4
    simp only [Int.add_mul, Int.mul_assoc, Int.mul_comm V]
  rw [e]
  generalize q0 * V = p0 at *; generalize q1 * V = p1 at *; generalize q2 * V = p2 at *; generalize q3 * V = p3 at *
  generalize q4 * V = p4 at *; generalize q5 * V = p5 at *; generalize q6 * V = p6 at *; generalize q7 * V = p7 at *
  clear e
  unfold hv4 at *
  omega
theorem quo_nonneg {q0 q1 q2 q3 q4 q5 q6 q7 : Int} (h0 : Hf q0) (h1 : Hf q1) (h2 : Hf q2) (h3 : Hf q3) (h4 : Hf q4) (h5 : Hf q5) (h6 : Hf q6) (h7 : Hf q7) : 0 ≤ quo q0 q1 q2 q3 q4 q5 q6 q7 ∧ quo q0 q1 q2 q3 q4 q5 q6 q7 < 115792089237316195423570985008687907853269984665640564039457584007913129639936 := by
  obtain ⟨_, _⟩ := h0; obtain ⟨_, _⟩ := h1; obtain ⟨_, _⟩ := h2; obtain ⟨_, _⟩ := h3; obtain ⟨_, _⟩ := h4; obtain ⟨_, _⟩ := h5; obtain ⟨_, _⟩ := h6; obtain ⟨_, _⟩ := h7
  unfold quo hv4; omega
/-- So the quotient and the rest are those of the numbers. -/
theorem div_end {A b n : Nat} {Q r : Int} (hb : b ≠ 0) (hQ : 0 ≤ Q) (h : ((A * 2 ^ n : Nat) : Int) = Q * ((b * 2 ^ n : Nat) : Int) + r) (h0 : 0 ≤ r) (h1 : r < ((b * 2 ^ n : Nat) : Int)) :
    Q = ((A / b : Nat) : Int) ∧ r.toNat / 2 ^ n = A % b := by
  obtain ⟨q, rfl⟩ := Int.eq_ofNat_of_zero_le hQ
  obtain ⟨s, rfl⟩ := Int.eq_ofNat_of_zero_le h0
  have hp := Nat.two_pow_pos n
  have e : A * 2 ^ n = q * (b * 2 ^ n) + s := by exact_mod_cast h
  have l : s < b * 2 ^ n := by exact_mod_cast h1
  have hpos : 0 < b * 2 ^ n := Nat.mul_pos (by omega) hp
  have e1 : A * 2 ^ n / (b * 2 ^ n) = q := by
    rw [e, Nat.mul_comm q, Nat.mul_add_div hpos, Nat.div_eq_of_lt l, Nat.add_zero]
  have e2 : A * 2 ^ n % (b * 2 ^ n) = s := by
    rw [e, Nat.mul_comm q, Nat.mul_add_mod, Nat.mod_eq_of_lt l]
  rw [Nat.mul_div_mul_right _ _ hp] at e1
  rw [Nat.mul_mod_mul_right] at e2
  refine ⟨by rw [e1], ?_⟩
  rw [Int.toNat_natCast, ← e2, Nat.mul_div_cancel _ hp]
/-- Words of halves. -/
theorem quo_words {q0 q1 q2 q3 q4 q5 q6 q7 : Int} (h0 : Hf q0) (h1 : Hf q1) (h2 : Hf q2) (h3 : Hf q3) (h4 : Hf q4) (h5 : Hf q5) (h6 : Hf q6) (h7 : Hf q7) {n : Nat} (e : quo q0 q1 q2 q3 q4 q5 q6 q7 = (n : Int)) :
    q7 * 4294967296 + q6 = wd n 3 ∧ q5 * 4294967296 + q4 = wd n 2 ∧ q3 * 4294967296 + q2 = wd n 1 ∧ q1 * 4294967296 + q0 = wd n 0 := by
  obtain ⟨_, _⟩ := h0; obtain ⟨_, _⟩ := h1; obtain ⟨_, _⟩ := h2; obtain ⟨_, _⟩ := h3; obtain ⟨_, _⟩ := h4; obtain ⟨_, _⟩ := h5; obtain ⟨_, _⟩ := h6; obtain ⟨_, _⟩ := h7
  unfold quo hv4 at e
  rw [wd3, wd2, wd1, wd0]
  refine ⟨?_, ?_, ?_, ?_⟩ <;> omega
theorem rest_word {y0 y1 y2 y3 : Int} (h0 : Hf y0) (h1 : Hf y1) (h2 : Hf y2) (h3 : Hf y3) : v4 0 0 (y3 * 4294967296 + y2) (y1 * 4294967296 + y0) = (hv4 y0 y1 y2 y3).toNat := by
  obtain ⟨_, _⟩ := h0; obtain ⟨_, _⟩ := h1; obtain ⟨_, _⟩ := h2; obtain ⟨_, _⟩ := h3
  unfold v4 v2 hv4; omega
theorem hf_word {a b : Int} (h0 : Hf a) (h1 : Hf b) : Wd (b * 4294967296 + a) := by
  obtain ⟨_, _⟩ := h0; obtain ⟨_, _⟩ := h1
  exact ⟨by omega, by omega⟩
end Go.Proofs.Ytmelipbanbihdaa
