/- Numbers behind the document's division, length and root: bit by bit. No program here. -/
import Derived.Test.YtmelipbanbihdaaShift
import Derived.Test.YtmelipbanbihdaaRootNum
namespace Go.Proofs.Ytmelipbanbihdaa

/-! One bit. -/
def bt (N i : Nat) : Nat := N / 2 ^ i % 2
theorem bt_le (N i : Nat) : bt N i ≤ 1 := by unfold bt; omega
theorem half_step (N i : Nat) : N / 2 ^ i = 2 * (N / 2 ^ (i + 1)) + bt N i := by
  unfold bt
  rw [Nat.pow_succ, ← Nat.div_div_eq_div_mul]
  omega
theorem mod_div_two (x r : Nat) (h : r < 64) : x % 18446744073709551616 / 2 ^ r % 2 = x / 2 ^ r % 2 := by
  rw [show (18446744073709551616 : Nat) = 2 ^ r * 2 ^ (64 - r) by rw [← Nat.pow_add, show r + (64 - r) = 64 by omega], Nat.mod_mul_right_div_self]
  exact Nat.mod_mod_of_dvd _ (Nat.dvd_trans ⟨2 ^ (63 - r), by rw [← Nat.pow_succ']; congr 1; omega⟩ (Nat.dvd_refl _))
theorem word_bit (N q r : Nat) (h : r < 64) : N / 2 ^ (64 * q) % 18446744073709551616 / 2 ^ r % 2 = bt N (64 * q + r) := by
  rw [mod_div_two _ _ h, Nat.div_div_eq_div_mul, ← Nat.pow_add]; rfl
theorem and_one (x : Int) (h : Wd x) : bits .and .u64 x 1 = x % 2 := bits_mask .u64 64 (by decide) (fun n h0 h1 => IntWalk.u64_in n (by omega)) 1 (by decide) x h.1 h.2
theorem bit_word (N q r : Nat) (h : r < 64) : bits .and .u64 (wd N q / 2 ^ r) 1 = ((bt N (64 * q + r) : Nat) : Int) := by
  rw [and_one _ (wd_div (wd_wd _ _) _), wd_eq, cast_div, ← word_bit N q r h]
  omega

/-! The division: after the bits from m on have come, the rest, and the quotient's bits in their places. -/
def rq (N d m : Nat) : Nat := N / 2 ^ m % d
def qq (N d m : Nat) : Nat := N / 2 ^ m / d * 2 ^ m
theorem rq_top {N d m : Nat} (h : N < 2 ^ m) : rq N d m = 0 := by unfold rq; rw [Nat.div_eq_of_lt h, Nat.zero_mod]
theorem qq_top {N d m : Nat} (h : N < 2 ^ m) : qq N d m = 0 := by unfold qq; rw [Nat.div_eq_of_lt h, Nat.zero_div, Nat.zero_mul]
theorem rq_end (N d : Nat) : rq N d 0 = N % d := by simp [rq]
theorem qq_end (N d : Nat) : qq N d 0 = N / d := by simp [qq]
theorem rq_lt {N d m : Nat} (h : d ≠ 0) : rq N d m < d := Nat.mod_lt _ (by omega)
theorem dq_step {M d b : Nat} (hd : d ≠ 0) (hb : b ≤ 1) : (2 * (M % d) + b < d ∧ (2 * M + b) % d = 2 * (M % d) + b ∧ (2 * M + b) / d = 2 * (M / d)) ∨
    (d ≤ 2 * (M % d) + b ∧ (2 * M + b) % d = 2 * (M % d) + b - d ∧ (2 * M + b) / d = 2 * (M / d) + 1) := by
  have h1 := Nat.div_add_mod M d
  have h2 := Nat.mod_lt M (show d > 0 by omega)
  generalize M / d = Q at *
  generalize M % d = R at *
  have e : 2 * M + b = d * (2 * Q) + (2 * R + b) := by
    rw [← h1, Nat.mul_add, ← Nat.mul_assoc, Nat.mul_comm 2 d, Nat.mul_assoc]; omega
  rcases Nat.lt_or_ge (2 * R + b) d with h | h
  · left
    refine ⟨h, ?_, ?_⟩
    · rw [e, Nat.mul_add_mod_self_left, Nat.mod_eq_of_lt h]
    · rw [e, Nat.mul_add_div (by omega), Nat.div_eq_of_lt h, Nat.add_zero]
  · right
    have e2 : 2 * M + b = d * (2 * Q + 1) + (2 * R + b - d) := by rw [e, Nat.mul_add, Nat.mul_one]; omega
    refine ⟨h, ?_, ?_⟩
    · rw [e2, Nat.mul_add_mod_self_left, Nat.mod_eq_of_lt (by omega)]
    · rw [e2, Nat.mul_add_div (by omega), Nat.div_eq_of_lt (by omega), Nat.add_zero]
theorem div_step {N d i : Nat} (hd : d ≠ 0) : (2 * rq N d (i + 1) + bt N i < d ∧ rq N d i = 2 * rq N d (i + 1) + bt N i ∧ qq N d i = qq N d (i + 1)) ∨
    (d ≤ 2 * rq N d (i + 1) + bt N i ∧ rq N d i = 2 * rq N d (i + 1) + bt N i - d ∧ qq N d i = qq N d (i + 1) + 2 ^ i) := by
  unfold rq qq
  rw [half_step N i, Nat.pow_succ]
  rcases dq_step (M := N / (2 ^ i * 2)) hd (bt_le N i) with ⟨h, e1, e2⟩ | ⟨h, e1, e2⟩
  · left
    refine ⟨h, e1, ?_⟩
    rw [e2, Nat.mul_comm 2, Nat.mul_assoc, Nat.mul_comm 2]
  · right
    refine ⟨h, e1, ?_⟩
    rw [e2, Nat.add_mul, Nat.one_mul, Nat.mul_comm 2, Nat.mul_assoc, Nat.mul_comm 2]
/-- The rest, doubled, and a bit: its words, and what is lost. -/
theorem two_words {R b : Nat} (hR : R < 340282366920938463463374607431768211456) (hb : b ≤ 1) :
    bits .or .u64 (IntKind.u64.wrap (wd R 1 * 2)) (wd R 0 / 9223372036854775808) = wd (2 * R + b) 1 ∧
    bits .or .u64 (IntKind.u64.wrap (wd R 0 * 2)) (b : Int) = wd (2 * R + b) 0 ∧
    wd R 1 / 9223372036854775808 = ((if 340282366920938463463374607431768211456 ≤ 2 * R + b then 1 else 0 : Nat) : Int) := by
  have j := or_join (x := wd R 1) (y := wd R 0) (r := 1) (by omega) (wd_wd _ _) (wd_wd _ _)
  rw [show ((2 : Int) ^ 1) = 2 by decide, show ((2 : Int) ^ (64 - 1)) = 9223372036854775808 by decide] at j
  refine ⟨?_, ?_, ?_⟩
  · rw [j, wd1, wd0, wd1]; omega
  · rw [wrap_u64, wd0]
    have h := or_nat (P := R % 18446744073709551616 * 2 % 18446744073709551616) (Q := b) (r := 1) (by omega) (by omega) (by rw [Nat.pow_one]; omega) (by rw [Nat.pow_one]; omega) (by omega)
    rw [show ((R % 18446744073709551616 : Nat) : Int) * 2 % 18446744073709551616 = ((R % 18446744073709551616 * 2 % 18446744073709551616 : Nat) : Int) by omega, h, wd0]
    omega
  · rw [wd1]; split <;> omega
theorem sub_words {R d : Nat} (hd : d < 340282366920938463463374607431768211456) (_h1 : d ≤ R) (_h2 : R < 2 * 340282366920938463463374607431768211456) (_h3 : R - d < 340282366920938463463374607431768211456) (i : Nat) (hi : i < 2) :
    wd (R % 340282366920938463463374607431768211456 + (340282366920938463463374607431768211456 - d)) i = wd (R - d) i := by
  rcases (show i = 0 ∨ i = 1 by omega) with rfl | rfl
  · rw [wd0, wd0]; omega
  · rw [wd1, wd1]; omega
/-- A word of the quotient, where a bit more comes, and where not. -/
theorem pow_word (i : Nat) (h : i < 64) : (2 : Nat) ^ i < 18446744073709551616 := by
  rw [← pow64]; exact Nat.pow_lt_pow_right (by decide) h
theorem qq_dvd (N d m : Nat) : ∃ k, qq N d m = k * 2 ^ m := ⟨_, rfl⟩
theorem word_more {Q m q r : Nat} (hr : r < 64) (hm : m = 64 * q + r) (hQ : ∃ k, Q = k * 2 ^ (m + 1)) :
    bits .or .u64 (wd Q q) (((2 ^ r : Nat)) : Int) = wd (Q + 2 ^ m) q ∧ ∀ j, j ≠ q → wd (Q + 2 ^ m) j = wd Q j := by
  obtain ⟨k, rfl⟩ := hQ
  subst hm
  have p : ∀ a b : Nat, 2 ^ (a + b) = 2 ^ a * 2 ^ b := fun a b => Nat.pow_add 2 a b
  have hp := Nat.two_pow_pos (64 * q)
  have e1 : (k * 2 ^ (64 * q + r + 1)) = 2 ^ (64 * q) * (k * 2 ^ (r + 1)) := by
    rw [Nat.add_assoc, p]; rw [Nat.mul_comm k, Nat.mul_assoc, Nat.mul_comm _ k]
  have e2 : k * 2 ^ (64 * q + r + 1) + 2 ^ (64 * q + r) = 2 ^ (64 * q) * (k * 2 ^ (r + 1) + 2 ^ r) := by
    rw [e1, p (64 * q) r, Nat.mul_add]
  have er : (2 : Nat) ^ (r + 1) = 2 ^ r * 2 := Nat.pow_succ 2 r
  have hw := pow_word r hr
  constructor
  · rw [wd_eq, wd_eq, e2, e1, Nat.mul_div_cancel_left _ hp, Nat.mul_div_cancel_left _ hp]
    have hs : (18446744073709551616 : Nat) = 2 ^ (r + 1) * 2 ^ (63 - r) := by rw [← Nat.pow_add, show r + 1 + (63 - r) = 64 by omega]
    have hm2 : k * 2 ^ (r + 1) % 18446744073709551616 = 2 ^ (r + 1) * (k % 2 ^ (63 - r)) := by rw [hs, Nat.mul_comm k, Nat.mul_mod_mul_left]
    have hle : 2 ^ (r + 1) * (k % 2 ^ (63 - r)) + 2 ^ (r + 1) ≤ 18446744073709551616 := by
      have := Nat.mul_le_mul_left (2 ^ (r + 1)) (show k % 2 ^ (63 - r) + 1 ≤ 2 ^ (63 - r) from Nat.mod_lt _ (Nat.two_pow_pos _))
      rw [Nat.mul_add, Nat.mul_one, ← hs] at this
      exact this
    rw [or_nat (r := r + 1) (by omega) (Nat.mod_lt _ (by decide)) (by rw [hm2, Nat.mul_mod_right]) (by rw [er]; have := Nat.two_pow_pos r; omega) hw]
    have hx : 2 ^ r < 2 ^ (r + 1) := by rw [er]; have := Nat.two_pow_pos r; omega
    have hg : k * 2 ^ (r + 1) % 18446744073709551616 + 2 ^ r = (k * 2 ^ (r + 1) + 2 ^ r) % 18446744073709551616 := by
      clear e1 e2 hs er p
      generalize 2 ^ (r + 1) * (k % 2 ^ (63 - r)) = B at *
      generalize k * 2 ^ (r + 1) = A at *
      generalize 2 ^ (r + 1) = E at *
      generalize 2 ^ r = P at *
      omega
    rw [hg]
  · intro j hj
    rw [wd_eq, wd_eq]
    congr 1
    rcases Nat.lt_or_ge j q with h | h
    · have e3 : (64 * q) = 64 * j + (64 + 64 * (q - j - 1)) := by omega
      rw [e2, e1, e3, p, p, Nat.mul_assoc, Nat.mul_assoc, Nat.mul_assoc, Nat.mul_assoc, Nat.mul_div_cancel_left _ (Nat.two_pow_pos _), Nat.mul_div_cancel_left _ (Nat.two_pow_pos _), pow64, Nat.mul_mod_right, Nat.mul_mod_right]
    · have e3 : 64 * j = 64 * q + (r + 1) + (64 * j - 64 * q - (r + 1)) := by omega
      have e4 : 2 ^ (64 * j) = 2 ^ (64 * q) * 2 ^ (r + 1) * 2 ^ (64 * j - 64 * q - (r + 1)) := by rw [← p, ← p, ← e3]
      have hl : 2 ^ r < 2 ^ (r + 1) := by rw [er]; have := Nat.two_pow_pos r; omega
      rw [e2, e1, e4, ← Nat.div_div_eq_div_mul, ← Nat.div_div_eq_div_mul, ← Nat.div_div_eq_div_mul, ← Nat.div_div_eq_div_mul, Nat.mul_div_cancel_left _ hp, Nat.mul_div_cancel_left _ hp, Nat.mul_div_cancel _ (Nat.two_pow_pos _),
        Nat.mul_comm k, Nat.mul_add_div (Nat.two_pow_pos _), Nat.div_eq_of_lt hl, Nat.add_zero]

/-! The length: where no bit from m on is set. -/
theorem len_hit {N i : Nat} (h : N < 2 ^ (i + 1)) (b : bt N i = 1) : blen N = i + 1 := by
  refine blen_of h (Or.inr ?_)
  unfold bt at b
  have hp := Nat.two_pow_pos i
  have := Nat.div_mul_le_self N (2 ^ i)
  rcases Nat.eq_zero_or_pos (N / 2 ^ i) with e | e
  · rw [e] at b; omega
  · have := Nat.le_mul_of_pos_left (2 ^ i) e
    simp; omega
theorem len_miss {N i : Nat} (h : N < 2 ^ (i + 1)) (b : bt N i ≠ 1) : N < 2 ^ i := by
  have hp := Nat.two_pow_pos i
  rw [Nat.pow_succ] at h
  have h2 : N / 2 ^ i < 2 := by rw [Nat.div_lt_iff_lt_mul hp]; omega
  unfold bt at b
  have h3 : N / 2 ^ i = 0 := by clear h; generalize N / 2 ^ i = x at *; omega
  rcases Nat.lt_or_ge N (2 ^ i) with k | k
  · exact k
  · have := (Nat.one_le_div_iff hp).2 k; omega

/-! The root: its bits from m on. -/
def rt (N m : Nat) : Nat := isq N / 2 ^ m * 2 ^ m
theorem rt_end (N : Nat) : rt N 0 = isq N := by simp [rt]
theorem rt_top {N m : Nat} (h : isq N < 2 ^ m) : rt N m = 0 := by unfold rt; rw [Nat.div_eq_of_lt h, Nat.zero_mul]
theorem rt_dvd (N m : Nat) : ∃ k, rt N m = k * 2 ^ m := ⟨_, rfl⟩
theorem rt_le (N m : Nat) : rt N m ≤ isq N := Nat.div_mul_le_self _ _
theorem sq_le_iff (N t : Nat) : t * t ≤ N ↔ t ≤ isq N := by
  have h := isq_spec N
  constructor
  · intro k
    rcases Nat.lt_or_ge (isq N) t with g | g
    · have := Nat.mul_le_mul (show isq N + 1 ≤ t from g) (show isq N + 1 ≤ t from g); omega
    · exact g
  · intro k
    have := Nat.mul_le_mul k k
    omega
theorem rt_step (N i : Nat) : ((rt N (i + 1) + 2 ^ i) * (rt N (i + 1) + 2 ^ i) ≤ N ∧ rt N i = rt N (i + 1) + 2 ^ i) ∨ (N < (rt N (i + 1) + 2 ^ i) * (rt N (i + 1) + 2 ^ i) ∧ rt N i = rt N (i + 1)) := by
  have hs := half_step (isq N) i
  have hb := bt_le (isq N) i
  have hp := Nat.two_pow_pos i
  have e1 : rt N i = rt N (i + 1) + bt (isq N) i * 2 ^ i := by
    unfold rt; rw [hs, Nat.pow_succ, Nat.add_mul, Nat.mul_comm 2, Nat.mul_assoc, Nat.mul_comm 2]
  have hm := Nat.div_add_mod (isq N) (2 ^ i)
  have hl := Nat.mod_lt (isq N) hp
  have e2 : rt N i + isq N % 2 ^ i = isq N := by unfold rt; rw [Nat.mul_comm]; exact hm
  rcases (show bt (isq N) i = 0 ∨ bt (isq N) i = 1 by omega) with b | b
  · right
    rw [b, Nat.zero_mul, Nat.add_zero] at e1
    refine ⟨?_, e1⟩
    rcases Nat.lt_or_ge N ((rt N (i + 1) + 2 ^ i) * (rt N (i + 1) + 2 ^ i)) with g | g
    · exact g
    · have := (sq_le_iff _ _).1 g; omega
  · left
    rw [b, Nat.one_mul] at e1
    refine ⟨(sq_le_iff _ _).2 ?_, e1⟩
    omega
end Go.Proofs.Ytmelipbanbihdaa
