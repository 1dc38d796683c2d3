/- What the laws say of two on a line, as numbers: nothing without masses or time; a square's answer where it goes. No program here. -/
import Derived.Test.YtmmlekgojblopaaPairLine
namespace Go.Proofs.Ytmmlekgojblopaa
set_option maxRecDepth 20000 in
theorem kk_zero {R : Nat} (h : 0 < R) : kk 0 R = 0 := by
  have h2 := isq_far h
  have e : k1n 0 R = 0 := by
    unfold k1n
    rw [Nat.zero_mul, Nat.zero_add]
    exact Nat.div_eq_of_lt (by omega)
  unfold kk
  rw [e, Nat.zero_mul, Nat.zero_add]
  exact Nat.div_eq_of_lt (by omega)
set_option maxRecDepth 20000 in
theorem rrn_sq (r : Nat) : rrn (r * r) = r * 18446744073709551616 := by
  unfold rrn
  have e : r * r * 18446744073709551616 * 18446744073709551616 = (r * 18446744073709551616) * (r * 18446744073709551616) := by grind
  rw [e]
  exact isq_of (Nat.le_refl _) (by rw [Nat.add_mul, Nat.mul_add]; omega)
set_option maxRecDepth 20000 in
/-- Both quotients go. -/
theorem dn_exact {x y q : Nat} (hy : 0 < y) (h : x * 18446744073709551616 = y * q) : (x * 36893488147419103232 + y) / (2 * y) = q := by
  have e : x * 36893488147419103232 + y = y * (2 * q + 1) := by
    have hC : (36893488147419103232 : Nat) = 2 * 18446744073709551616 := by decide
    rw [hC, Nat.mul_left_comm x 2, h, Nat.mul_add, Nat.mul_one, Nat.mul_left_comm]
  have e2 : 2 * y = y * 2 := Nat.mul_comm _ _
  rw [e, e2, Nat.mul_div_mul_left _ _ hy]
  omega
set_option maxRecDepth 20000 in
theorem kk_exact {M r q : Nat} (hr : 0 < r) (h : M * 18446744073709551616 = r * r * (r * q)) : kk M (r * r) = q := by
  have hW : 0 < r * r * 18446744073709551616 := Nat.mul_pos (Nat.mul_pos hr hr) (by decide)
  have e1 : k1n M (r * r) = r * q := by
    unfold k1n
    refine dn_exact hW ?_
    rw [h]; grind
  unfold kk
  rw [e1, rrn_sq]
  refine dn_exact (Nat.mul_pos hr (by decide)) ?_
  grind
set_option maxRecDepth 20000 in
/-- What the square says. -/
theorem divr_exact {M R q : Nat} (hR : 0 < R) (h : M * 18446744073709551616 = R * q) : divr ((M * 18446744073709551616 : Nat) : Int) ((R * 18446744073709551616 : Nat) : Int) = (q : Int) := by
  rw [divr_nat, dn_exact (q := q) (Nat.mul_pos hR (by decide)) (by rw [h]; grind)]
/-- A greater Eps never pulls more. -/
theorem line_mono {M D e e' : Nat} (h0 : 0 < D * D + e * e) (h : e ≤ e') : D * kk M (D * D + e' * e') ≤ D * kk M (D * D + e * e) := by
  have := Nat.mul_le_mul h h
  exact Nat.mul_le_mul_left _ (kk_mono h0 (by omega))
end Go.Proofs.Ytmmlekgojblopaa
