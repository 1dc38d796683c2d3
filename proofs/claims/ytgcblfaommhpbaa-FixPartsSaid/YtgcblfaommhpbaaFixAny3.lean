/- What a quotient of numbers with a point comes to. -/
import Derived.Test.YtgcblfaommhpbaaFixDiv
import Derived.Test.YtgcblfaommhpbaaFixAny1
import Derived.Test.YtgcblfaommhpbaaFixAny2
import Derived.Test.YtgcblfaommhpbaaDiv
namespace Go.Proofs.Ytgcblfaommhpbaa
open Go.RowKit

theorem div_round {N d : Nat} (hd : d ≠ 0) : (N * 2 + d) / (2 * d) = N / d + (if d ≤ N % d * 2 then 1 else 0) := by
  have e := Nat.div_add_mod N d
  have hr := Nat.mod_lt N (show 0 < d by omega)
  generalize N / d = q at *
  generalize N % d = r at *
  have h1 : N * 2 + d = 2 * d * q + (r * 2 + d) := by rw [← e, Nat.mul_assoc]; omega
  rw [h1, Nat.mul_add_div (by omega)]
  congr 1
  by_cases c : d ≤ r * 2
  · rw [if_pos c]; exact Nat.div_eq_of_lt_le (by omega) (by omega)
  · rw [if_neg c]; exact Nat.div_eq_of_lt (by omega)
theorem icmp_ge {a b : Nat} : 0 ≤ icmp (a : Int) (b : Int) ↔ b ≤ a := by
  unfold icmp; repeat' split
  all_goals omega
theorem fdiv_any (x y : Int) (hx : My x) (hy : My y) (h0 : y ≠ 0) (w : World) :
    Calls Try.prog 38 #[.agg #[.int .i64 (fh x), .int .u64 (fl x)], .agg #[.int .i64 (fh y), .int .u64 (fl y)]] w fun e w' => e = .returned (.tuple #[.agg #[.int .i64 (fh (ov (divr x y))), .int .u64 (fl (ov (divr x y)))], .int .i64 (oe (divr x y))]) ∧ Below w.heap.size w w' := by
  have z : Wd 0 := ⟨by omega, by omega⟩
  have ax := abs_lt hx
  have ay := abs_lt hy
  have hd : y.natAbs ≠ 0 := by omega
  have C3 := shl_any 0 0 _ _ 64 z z (wd_wd x.natAbs 1) (wd_wd x.natAbs 0) (by decide)
  rw [v4_lower, abs_v2 hx.fx, pow_64] at C3
  have C4 := div_any _ _ _ _ _ _ (wd_wd (x.natAbs * 18446744073709551616) 3) (wd_wd (x.natAbs * 18446744073709551616) 2) (wd_wd (x.natAbs * 18446744073709551616) 1) (wd_wd (x.natAbs * 18446744073709551616) 0) (wd_wd y.natAbs 1) (wd_wd y.natAbs 0) (by rw [abs_v2 hy.fx]; exact hd)
  have hN : x.natAbs * 18446744073709551616 < 115792089237316195423570985008687907853269984665640564039457584007913129639936 := by omega
  rw [v4_of hN, abs_v2 hy.fx] at C4
  have hs : divr x y = sg (decide (x < 0) != decide (y < 0)) ((x.natAbs * 18446744073709551616 / y.natAbs + (if y.natAbs ≤ x.natAbs * 18446744073709551616 % y.natAbs * 2 then 1 else 0) : Nat) : Int) := by
    unfold divr
    rw [show x.natAbs * 36893488147419103232 = x.natAbs * 18446744073709551616 * 2 by omega, div_round hd]
  rw [hs]
  have C1 := size_any y hy.fx
  have B := abs_v2 hy.fx
  generalize x.natAbs * 18446744073709551616 = N at *
  have hR := Nat.mod_lt N (show 0 < y.natAbs by omega)
  have hQ := Nat.lt_of_le_of_lt (Nat.div_le_self N y.natAbs) hN
  generalize y.natAbs = d at *
  generalize N / d = Q at *
  generalize N % d = R at *
  have C5 := shl_any 0 0 _ _ 1 z z (wd_wd R 1) (wd_wd R 0) (by decide)
  rw [v4_lower, v2_wd, Nat.mod_eq_of_lt (show R < _ by omega), pow_1] at C5
  have C6 := cmp_any _ _ _ _ 0 0 _ _ (wd_wd (R * 2) 3) (wd_wd (R * 2) 2) (wd_wd (R * 2) 1) (wd_wd (R * 2) 0) z z (wd_wd d 1) (wd_wd d 0)
  rw [v4_of (show R * 2 < _ by omega), v4_lower, B] at C6
  have C9 := nearest_any _ _ _ _ (if d ≤ R * 2 then 1 else 0) (decide (x < 0) != decide (y < 0)) (wd_wd Q 3) (wd_wd Q 2) (wd_wd Q 1) (wd_wd Q 0) (by split <;> omega)
  rw [v4_of hQ] at C9
  refine fdiv_core _ _ _ _ _ _ _ _ _ _ _ _ _ _ _ _ _ _ _ _ _ _ _ _ _ _ _ _ _ _ _ _ _ true (sw_xor _ _) ?_ (Or.inr ⟨rfl, rfl, rfl, rfl⟩) w C1 (size_any x hx.fx) C3 C4 C5 C6 (sign_any x hx.fx) (sign_any y hy.fx) C9
  by_cases c : d ≤ R * 2
  · exact Or.inl ⟨icmp_ge.2 c, by rw [if_pos c]; rfl⟩
  · exact Or.inr ⟨fun h => c (icmp_ge.1 h), by rw [if_neg c]; rfl⟩
theorem fdiv_none (x : Int) (hx : My x) (w : World) :
    Calls Try.prog 38 #[.agg #[.int .i64 (fh x), .int .u64 (fl x)], .agg #[.int .i64 0, .int .u64 0]] w fun e w' => e = .returned (.tuple #[.agg #[.int .i64 0, .int .u64 0], .int .i64 2]) ∧ Below w.heap.size w w' := by
  have z : Wd 0 := ⟨by omega, by omega⟩
  have h0 : Fx 0 := ⟨by decide, by decide⟩
  have C3 := shl_any 0 0 _ _ 64 z z (wd_wd x.natAbs 1) (wd_wd x.natAbs 0) (by decide)
  have C1 := size_any 0 h0
  have S := sign_any 0 h0
  rw [fh_zero, fl_zero] at C1 S
  rw [show wd (0 : Int).natAbs 1 = 0 from rfl, show wd (0 : Int).natAbs 0 = 0 from rfl] at C1
  have C5 := shl_any 0 0 0 0 1 z z z z (by decide)
  have C6 := cmp_any _ _ _ _ 0 0 0 0 (wd_wd (v4 0 0 0 0 * 2 ^ (1 : Int).toNat) 3) (wd_wd (v4 0 0 0 0 * 2 ^ (1 : Int).toNat) 2) (wd_wd (v4 0 0 0 0 * 2 ^ (1 : Int).toNat) 1) (wd_wd (v4 0 0 0 0 * 2 ^ (1 : Int).toNat) 0) z z z z
  have C9 := nearest_any 0 0 0 0 (if v4 0 0 0 0 ≤ v4 (wd (v4 0 0 0 0 * 2 ^ (1 : Int).toNat) 3) (wd (v4 0 0 0 0 * 2 ^ (1 : Int).toNat) 2) (wd (v4 0 0 0 0 * 2 ^ (1 : Int).toNat) 1) (wd (v4 0 0 0 0 * 2 ^ (1 : Int).toNat) 0) then 1 else 0) (decide (x < 0) != decide ((0 : Int) < 0)) z z z z (by split <;> omega)
  refine fdiv_core _ _ _ _ _ _ _ _ _ _ _ _ _ _ _ _ _ _ _ _ _ _ _ _ _ _ _ _ _ _ _ _ _ false (sw_xor _ _) ?_ (Or.inl ⟨rfl, rfl, rfl, rfl⟩) w C1 (size_any x hx.fx) C3 (div_zero _ _ _ _) C5 C6 (sign_any x hx.fx) S C9
  by_cases c : v4 0 0 0 0 ≤ v4 (wd (v4 0 0 0 0 * 2 ^ (1 : Int).toNat) 3) (wd (v4 0 0 0 0 * 2 ^ (1 : Int).toNat) 2) (wd (v4 0 0 0 0 * 2 ^ (1 : Int).toNat) 1) (wd (v4 0 0 0 0 * 2 ^ (1 : Int).toNat) 0)
  · exact Or.inl ⟨icmp_ge.2 c, by rw [if_pos c]; rfl⟩
  · exact Or.inr ⟨fun h => c (icmp_ge.1 h), by rw [if_neg c]; rfl⟩
end Go.Proofs.Ytgcblfaommhpbaa
