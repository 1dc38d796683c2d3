/- What each call of package fix comes to, by whole numbers: products, roots, halves, whole numbers. -/
import Derived.Test.YtnedljclkhpdpaaZzFixA
import Derived.Test.YtnedljclkhpdpaaZzLimC
namespace Go.Proofs.Ytnedljclkhpdpaa
open Go.RowKit

end Go.Proofs.Ytnedljclkhpdpaa
namespace Go.Proofs.Ytnedljclkhpdpaa
open Go.RowKit

end Go.Proofs.Ytnedljclkhpdpaa
namespace Go.Proofs.Ytnedljclkhpdpaa
open Go.RowKit

end Go.Proofs.Ytnedljclkhpdpaa
namespace Go.Proofs.Ytnedljclkhpdpaa
open Go.RowKit

theorem sw_and (a b : Bool) : bits .and .u64 (sw a) (sw b) = sw (a && b) := by
  cases a <;> cases b <;> decide
theorem sw_ne {s : Bool} (h : s = true) : sw s ≠ 0 := by subst h; decide
theorem sw_eq {s : Bool} (h : ¬ s = true) : sw s = 0 := by cases s; rfl; exact absurd rfl h
/-- The sum's bits, read as a number. -/
def bmod (n : Int) : Int := (n + 170141183460469231731687303715884105728) % 340282366920938463463374607431768211456 - 170141183460469231731687303715884105728
theorem bmod_Fx (n : Int) : Fx (bmod n) := by unfold bmod; constructor <;> omega
theorem icmp_fix (x y : Int) : orI (icmp (fh x) (fh y)) (icmp (fl x) (fl y)) = icmp x y := by
  unfold orI icmp fh fl
  repeat' split
  all_goals omega
end Go.Proofs.Ytnedljclkhpdpaa
namespace Go.Proofs.Ytnedljclkhpdpaa
open Go.RowKit

theorem abs_v2 {x : Int} (h : Fx x) : v2 (wd x.natAbs 1) (wd x.natAbs 0) = x.natAbs := by
  obtain ⟨_, _⟩ := h
  rw [v2_wd]; omega
theorem v4_of {n : Nat} (h : n < 115792089237316195423570985008687907853269984665640564039457584007913129639936) : v4 (wd n 3) (wd n 2) (wd n 1) (wd n 0) = n := v4_small h
theorem v4_lower {h l : Int} : v4 0 0 h l = v2 h l := by unfold v4; rw [v2_zero, Nat.zero_mul, Nat.zero_add]
theorem up_bit (n : Nat) : wd n 0 / 9223372036854775808 = ((n / 9223372036854775808 % 2 : Nat) : Int) := by
  rw [wd0]; omega
theorem up_round (n : Nat) : n / 18446744073709551616 + n / 9223372036854775808 % 2 = (n + 9223372036854775808) / 18446744073709551616 := by omega
theorem pow_64 : (2 : Nat) ^ (64 : Int).toNat = 18446744073709551616 := by decide
theorem pow_1 : (2 : Nat) ^ (1 : Int).toNat = 2 := by decide
theorem abs_lt {x : Int} (h : My x) : x.natAbs < 170141183460469231731687303715884105728 := by obtain ⟨_, _⟩ := h; omega
/-- The greatest number whose square is at most x. -/
def sqr (x : Int) : Int := ((isq (x.toNat * 18446744073709551616) : Nat) : Int)
theorem sqr_My {x : Int} (h : My x) : My (sqr x) := by
  obtain ⟨_, _⟩ := h
  have := isq_lt (n := x.toNat * 18446744073709551616) (k := 170141183460469231731687303715884105728) (by omega)
  unfold sqr; constructor <;> omega
theorem u64_and1 (x : Int) (h : Wd x) : bits .and .u64 x 1 = x % 2 := bits_mask .u64 64 (by decide) (fun n h0 h1 => IntWalk.u64_in n (by omega)) 1 (by decide) x h.1 h.2
theorem half_My {x : Int} (h : My x) : My (halfr x) := by
  have := abs_lt h
  unfold halfr; exact sg_small (by omega)
theorem rnd_wrap (s : Bool) (n : Nat) (h : n < 9223372036854775808) : wrap64 (sg s n % 18446744073709551616) = sg s n := by
  unfold wrap64 sg; cases s <;> simp <;> omega
end Go.Proofs.Ytnedljclkhpdpaa
