/- Numbers with a point, as whole numbers of parts of 2^64. No program here. -/
import Derived.Test.YtmelipbanbihdaaNum
import Derived.Test.YtmelipbanbihdaaSqrtNum
namespace Go.Proofs.Ytmelipbanbihdaa

/-- The upper word of a number with a point (with its sign), and the lower. -/
def fh (x : Int) : Int := x / 18446744073709551616
def fl (x : Int) : Int := x % 18446744073709551616
def Hd (x : Int) : Prop := -9223372036854775808 ≤ x ∧ x < 9223372036854775808
/-- A number; one that may be. -/
def Fx (x : Int) : Prop := -170141183460469231731687303715884105728 ≤ x ∧ x < 170141183460469231731687303715884105728
def My (x : Int) : Prop := -170141183460469231731687303715884105728 < x ∧ x < 170141183460469231731687303715884105728
def fx (h l : Int) : Int := h * 18446744073709551616 + l
theorem My.fx {x : Int} (h : My x) : Fx x := ⟨Int.le_of_lt h.1, h.2⟩
theorem fx_Fx {h l : Int} (a : Hd h) (b : Wd l) : Fx (fx h l) := by
  obtain ⟨_, _⟩ := a; obtain ⟨_, _⟩ := b; unfold Fx Proofs.Ytmelipbanbihdaa.fx; omega
theorem fh_fx {h l : Int} (b : Wd l) : fh (fx h l) = h := by
  obtain ⟨_, _⟩ := b; unfold fh Proofs.Ytmelipbanbihdaa.fx; omega
theorem fl_fx {h l : Int} (b : Wd l) : fl (fx h l) = l := by
  obtain ⟨_, _⟩ := b; unfold fl Proofs.Ytmelipbanbihdaa.fx; omega
theorem fx_fh (x : Int) : fx (fh x) (fl x) = x := by unfold fh fl Proofs.Ytmelipbanbihdaa.fx; omega
theorem fl_wd (x : Int) : Wd (fl x) := by unfold Wd fl; omega
theorem fh_hd {x : Int} (h : Fx x) : Hd (fh x) := by obtain ⟨_, _⟩ := h; unfold Hd fh; omega
theorem fx_ext {x y : Int} (h : fh x = fh y) (l : fl x = fl y) : x = y := by rw [← fx_fh x, ← fx_fh y, h, l]
theorem wrap_i64 (n : Int) : IntKind.i64.wrap n = (n + 9223372036854775808) % 18446744073709551616 - 9223372036854775808 := by
  have h : IntKind.i64.wrap n = if 9223372036854775808 ≤ n % 18446744073709551616 then n % 18446744073709551616 - 18446744073709551616 else n % 18446744073709551616 := by
    simp [IntKind.wrap, IntKind.bits, IntKind.signed]
  rw [h]
  split <;> omega
/-- The same bits, as a wide number. -/
def ub (x : Int) : Nat := (x % 340282366920938463463374607431768211456).toNat
theorem ub_lt (x : Int) : ub x < 340282366920938463463374607431768211456 := by unfold ub; omega
theorem ub_1 {x : Int} : IntKind.u64.wrap (fh x) = wd (ub x) 1 := by rw [wrap_u64, wd1]; unfold fh ub; omega
theorem ub_0 (x : Int) : fl x = wd (ub x) 0 := by rw [wd0]; unfold fl ub; omega
theorem ub_v2 (x : Int) : v2 (wd (ub x) 1) (wd (ub x) 0) = ub x := by rw [v2_wd]; have := ub_lt x; omega
/-- Back from a wide number's bits. -/
theorem of_ub {x : Int} {n : Nat} (h : Fx x) (e : (n : Int) % 340282366920938463463374607431768211456 = x % 340282366920938463463374607431768211456) : (wd n 1 + 9223372036854775808) % 18446744073709551616 - 9223372036854775808 = fh x ∧ wd n 0 = fl x := by
  obtain ⟨_, _⟩ := h
  rw [wd1, wd0]; unfold fh fl
  constructor <;> omega
/-- A word of ones, or nought. -/
def sw (s : Bool) : Int := if s then 18446744073709551615 else 0
theorem sw_wd (s : Bool) : Wd (sw s) := by cases s <;> exact ⟨by decide, by decide⟩
def sg (s : Bool) (n : Int) : Int := if s then -n else n
theorem sg_abs (x : Int) : sg (decide (x < 0)) (x.natAbs : Int) = x := by
  unfold sg; by_cases h : x < 0 <;> simp [h] <;> omega
theorem ofInt_inj {x y : Int} (hx : Wd x) (hy : Wd y) (h : BitVec.ofInt 64 x = BitVec.ofInt 64 y) : x = y := by
  obtain ⟨_, _⟩ := hx; obtain ⟨_, _⟩ := hy
  have := congrArg BitVec.toNat h
  simp only [BitVec.toNat_ofInt] at this
  omega
theorem xor_zero {x : Int} (h : Wd x) : bits .xor .u64 x 0 = x := by
  refine ofInt_inj (bits_wd _ _ _) h ?_
  rw [ofInt_xor]; simp
theorem xor_ones {x : Int} (h : Wd x) : bits .xor .u64 x 18446744073709551615 = 18446744073709551615 - x := by
  obtain ⟨h0, h1⟩ := h
  refine ofInt_inj (bits_wd _ _ _) ⟨by omega, by omega⟩ ?_
  rw [ofInt_xor]
  have e : BitVec.ofInt 64 18446744073709551615 = BitVec.allOnes 64 := by decide
  rw [e, BitVec.xor_allOnes]
  apply BitVec.eq_of_toNat_eq
  rw [BitVec.toNat_not, BitVec.toNat_ofInt, BitVec.toNat_ofInt]
  omega
theorem sw_xor (a b : Bool) : bits .xor .u64 (sw a) (sw b) = sw (a != b) := by
  cases a <;> cases b <;> decide
/-- A number, or nought and an error: what a sum, a product, a quotient is told as. -/
def ov (x : Int) : Int := if -170141183460469231731687303715884105728 < x ∧ x < 170141183460469231731687303715884105728 then x else 0
def oe (x : Int) : Int := if -170141183460469231731687303715884105728 < x ∧ x < 170141183460469231731687303715884105728 then 0 else 3
theorem ov_My (x : Int) : My (ov x) := by unfold ov; split; exact ‹_›; exact ⟨by decide, by decide⟩
theorem ov_in {x : Int} (h : My x) : ov x = x := if_pos h
theorem oe_in {x : Int} (h : My x) : oe x = 0 := if_pos h
theorem ov_out {x : Int} (h : ¬ My x) : ov x = 0 := if_neg h
theorem oe_out {x : Int} (h : ¬ My x) : oe x = 3 := if_neg h
/-- Products, quotients, halves, whole numbers: rounded by size, then the sign. -/
def mulr (x y : Int) : Int := sg (decide (x < 0) != decide (y < 0)) (((x.natAbs * y.natAbs + 9223372036854775808) / 18446744073709551616 : Nat) : Int)
def divr (x y : Int) : Int := sg (decide (x < 0) != decide (y < 0)) (((x.natAbs * 36893488147419103232 + y.natAbs) / (2 * y.natAbs) : Nat) : Int)
def halfr (x : Int) : Int := sg (decide (x < 0)) (((x.natAbs + 1) / 2 : Nat) : Int)
def rndr (x : Int) : Int := sg (decide (x < 0)) ((min ((x.natAbs + 9223372036854775808) / 18446744073709551616) 9223372036854775807 : Nat) : Int)
def intr (n : Int) : Int := (if n < -9223372036854775807 then -9223372036854775807 else n) * 18446744073709551616
end Go.Proofs.Ytmelipbanbihdaa
