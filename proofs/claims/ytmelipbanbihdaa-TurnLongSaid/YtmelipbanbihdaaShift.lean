/- Shifts of wide numbers, word by word. No program here. -/
import Derived.Test.YtmelipbanbihdaaNum
namespace Go.Proofs.Ytmelipbanbihdaa

theorem pow64 : (2 : Nat) ^ 64 = 18446744073709551616 := by decide
theorem two_split {r : Nat} (h : r ≤ 64) : (2 : Nat) ^ (64 - r) * 2 ^ r = 18446744073709551616 := by
  rw [← Nat.pow_add, show 64 - r + r = 64 by omega, pow64]

theorem shl_none_nat (V q r i : Nat) (h : i < q) : V * 2 ^ (64 * q + r) / 2 ^ (64 * i) % 18446744073709551616 = 0 := by
  rw [show 64 * q + r = 64 * i + (64 + (64 * (q - i - 1) + r)) by omega, Nat.pow_add, Nat.pow_add, ← Nat.mul_assoc, Nat.mul_comm V, Nat.mul_assoc, Nat.mul_div_cancel_left _ (Nat.two_pow_pos _), pow64, Nat.mul_comm V, Nat.mul_assoc, Nat.mul_mod_right]
theorem shl_lo_nat (V q r : Nat) : V * 2 ^ (64 * q + r) / 2 ^ (64 * q) % 18446744073709551616 = (V % 18446744073709551616) * 2 ^ r % 18446744073709551616 := by
  rw [Nat.pow_add, ← Nat.mul_assoc, Nat.mul_comm V, Nat.mul_assoc, Nat.mul_div_cancel_left _ (Nat.two_pow_pos _), Nat.mod_mul_mod]
theorem shl_hi_nat (V q r j : Nat) (hr : r ≤ 64) : V * 2 ^ (64 * q + r) / 2 ^ (64 * (q + j + 1)) % 18446744073709551616 =
    ((V / 2 ^ (64 * (j + 1)) % 18446744073709551616) * 2 ^ r + (V / 2 ^ (64 * j) % 18446744073709551616) / 2 ^ (64 - r)) % 18446744073709551616 := by
  have hs := two_split hr
  have e1 : V * 2 ^ (64 * q + r) / 2 ^ (64 * (q + j + 1)) = V / 2 ^ (64 * j) / 2 ^ (64 - r) := by
    rw [show 64 * (q + j + 1) = (64 * q + r) + (64 * j + (64 - r)) by omega, Nat.pow_add 2 (64 * q + r), Nat.mul_comm V, Nat.mul_div_mul_left _ _ (Nat.two_pow_pos _), Nat.pow_add, Nat.div_div_eq_div_mul]
  have e2 : V / 2 ^ (64 * (j + 1)) = V / 2 ^ (64 * j) / 18446744073709551616 := by
    rw [show 64 * (j + 1) = 64 * j + 64 by omega, Nat.pow_add, pow64, Nat.div_div_eq_div_mul]
  rw [e1, e2]
  generalize V / 2 ^ (64 * j) = A
  have hp := Nat.two_pow_pos (64 - r)
  generalize hS : 2 ^ (64 - r) = S at *
  generalize 2 ^ r = R at *
  have hA := Nat.div_add_mod A 18446744073709551616
  generalize A / 18446744073709551616 = H at *
  generalize A % 18446744073709551616 = l at *
  have e3 : A / S = R * H + l / S := by
    rw [← hA, ← hs, Nat.mul_assoc, Nat.mul_add_div hp]
  rw [e3, Nat.mul_comm R H, Nat.add_mod, Nat.add_mod (H % _ * R), Nat.mod_mul_mod]
theorem shr_nat (V q r k : Nat) (hr : r ≤ 64) : V / 2 ^ (64 * q + r) / 2 ^ (64 * k) % 18446744073709551616 =
    (V / 2 ^ (64 * (k + q)) % 18446744073709551616) / 2 ^ r + (V / 2 ^ (64 * (k + q + 1)) % 18446744073709551616) * 2 ^ (64 - r) % 18446744073709551616 := by
  have hs := two_split hr
  have e1 : V / 2 ^ (64 * q + r) / 2 ^ (64 * k) = V / 2 ^ (64 * (k + q)) / 2 ^ r := by
    rw [Nat.div_div_eq_div_mul, Nat.div_div_eq_div_mul, ← Nat.pow_add, ← Nat.pow_add]
    congr 2; omega
  have e2 : V / 2 ^ (64 * (k + q + 1)) = V / 2 ^ (64 * (k + q)) / 18446744073709551616 := by
    rw [show 64 * (k + q + 1) = 64 * (k + q) + 64 by omega, Nat.pow_add, pow64, Nat.div_div_eq_div_mul]
  rw [e1, e2]
  generalize V / 2 ^ (64 * (k + q)) = A
  have hp := Nat.two_pow_pos r
  have hp2 := Nat.two_pow_pos (64 - r)
  generalize 2 ^ (64 - r) = S at *
  generalize 2 ^ r = R at *
  have hA := Nat.div_add_mod A 18446744073709551616
  have hl := Nat.mod_lt A (show 18446744073709551616 > 0 by decide)
  generalize A / 18446744073709551616 = H at *
  generalize A % 18446744073709551616 = l at *
  have e3 : A / R = S * H + l / R := by
    rw [← hA, ← hs, Nat.mul_comm S R, Nat.mul_assoc, Nat.mul_add_div hp]
  have hlr : l / R < S := by rw [Nat.div_lt_iff_lt_mul hp, hs]; exact hl
  rw [e3, Nat.mod_mul_mod, Nat.mul_comm H S, ← hs, Nat.mul_mod_mul_left]
  have h4 : S * H = S * R * (H / R) + S * (H % R) := by
    rw [Nat.mul_assoc, ← Nat.mul_add, Nat.div_add_mod]
  have h5 : S * (H % R) + S ≤ S * R := by
    have := Nat.mod_lt H hp
    have h := Nat.mul_le_mul_left S (show H % R + 1 ≤ R by omega)
    rw [Nat.mul_add, Nat.mul_one] at h
    exact h
  rw [h4, Nat.add_assoc, Nat.mul_add_mod_self_left, Nat.mod_eq_of_lt (by omega), Nat.add_comm]

/-! The same of words, as integers. -/
theorem wd_eq (n i : Nat) : wd n i = ((n / 2 ^ (64 * i) % 18446744073709551616 : Nat) : Int) := rfl
theorem shl_none {V q r i : Nat} (h : i < q) : wd (V * 2 ^ (64 * q + r)) i = 0 := by rw [wd_eq, shl_none_nat _ _ _ _ h]; rfl
theorem cast_mul (a b : Nat) : (a : Int) * 2 ^ b = ((a * 2 ^ b : Nat) : Int) := by simp
theorem cast_div (a b : Nat) : (a : Int) / 2 ^ b = ((a / 2 ^ b : Nat) : Int) := by simp
theorem cast_mod (a : Nat) : (a : Int) % 18446744073709551616 = ((a % 18446744073709551616 : Nat) : Int) := by simp
theorem cast_add (a b : Nat) : (a : Int) + b = ((a + b : Nat) : Int) := by simp
theorem shl_lo (V q r : Nat) : wd (V * 2 ^ (64 * q + r)) q = IntKind.u64.wrap (wd V 0 * 2 ^ r) := by
  rw [wd_eq, shl_lo_nat, wrap_u64, wd0, cast_mul, cast_mod]
theorem or_nat {P Q r : Nat} (_ : r ≤ 64) (hP : P < 18446744073709551616) (hm : P % 2 ^ r = 0) (hQ : Q < 2 ^ r) (hQ2 : Q < 18446744073709551616) : bits .or .u64 (P : Int) (Q : Int) = ((P + Q : Nat) : Int) := by
  rw [bits_join .u64 64 (by decide) (fun n h0 h1 => IntWalk.u64_in n (by omega)) r _ _ (by omega) (by exact_mod_cast hm) (by omega) (by omega) (by exact_mod_cast hQ) (by omega)]
  simp
theorem or_join_nat {X Y r : Nat} (hr : r ≤ 64) (_ : X < 18446744073709551616) (hY : Y < 18446744073709551616) :
    bits .or .u64 ((X * 2 ^ r % 18446744073709551616 : Nat) : Int) ((Y / 2 ^ (64 - r) : Nat) : Int) = (((X * 2 ^ r + Y / 2 ^ (64 - r)) % 18446744073709551616 : Nat) : Int) ∧
    X * 2 ^ r % 18446744073709551616 + Y / 2 ^ (64 - r) = (X * 2 ^ r + Y / 2 ^ (64 - r)) % 18446744073709551616 := by
  have hs := two_split hr
  have hp := Nat.two_pow_pos r
  have hp2 := Nat.two_pow_pos (64 - r)
  have hy2 : Y / 2 ^ (64 - r) < 2 ^ r := by rw [Nat.div_lt_iff_lt_mul hp2, Nat.mul_comm, hs]; omega
  have hm : X * 2 ^ r % 18446744073709551616 = 2 ^ r * (X % 2 ^ (64 - r)) := by rw [← hs, Nat.mul_comm X, Nat.mul_comm (2 ^ (64 - r)), Nat.mul_mod_mul_left]
  have hd : X * 2 ^ r % 18446744073709551616 % 2 ^ r = 0 := by rw [hm]; exact Nat.mul_mod_right _ _
  have hy3 : Y / 2 ^ (64 - r) < 18446744073709551616 := Nat.lt_of_le_of_lt (Nat.div_le_self _ _) hY
  have h6 : X * 2 ^ r % 18446744073709551616 + Y / 2 ^ (64 - r) < 18446744073709551616 := by
    rw [hm]
    have h7 := Nat.mul_le_mul_left (2 ^ r) (show X % 2 ^ (64 - r) + 1 ≤ 2 ^ (64 - r) from Nat.mod_lt _ hp2)
    rw [Nat.mul_add, Nat.mul_comm _ (2 ^ (64 - r)), hs] at h7
    omega
  have h8 : X * 2 ^ r % 18446744073709551616 + Y / 2 ^ (64 - r) = (X * 2 ^ r + Y / 2 ^ (64 - r)) % 18446744073709551616 := by
    clear hm hd hy2
    generalize X * 2 ^ r = P at *
    generalize Y / 2 ^ (64 - r) = Q at *
    omega
  exact ⟨by rw [or_nat hr (Nat.mod_lt _ (by decide)) hd hy2 hy3, h8], h8⟩
theorem or_join {x y : Int} {r : Nat} (hr : r ≤ 64) (hx : Wd x) (hy : Wd y) : bits .or .u64 (IntKind.u64.wrap (x * 2 ^ r)) (y / 2 ^ (64 - r)) = (x * 2 ^ r + y / 2 ^ (64 - r)) % 18446744073709551616 := by
  obtain ⟨x0, x1⟩ := hx; obtain ⟨y0, y1⟩ := hy
  obtain ⟨X, rfl⟩ := Int.eq_ofNat_of_zero_le x0
  obtain ⟨Y, rfl⟩ := Int.eq_ofNat_of_zero_le y0
  rw [wrap_u64, cast_mul, cast_div, cast_add, cast_mod, cast_mod]
  exact (or_join_nat hr (by omega) (by omega)).1
theorem shl_hi (V q r j : Nat) (hr : r ≤ 64) : wd (V * 2 ^ (64 * q + r)) (q + j + 1) = bits .or .u64 (IntKind.u64.wrap (wd V (j + 1) * 2 ^ r)) (wd V j / 2 ^ (64 - r)) := by
  rw [or_join hr (wd_wd _ _) (wd_wd _ _), wd_eq, shl_hi_nat _ _ _ _ hr, wd_eq, wd_eq, cast_mul, cast_div, cast_add, cast_mod]
theorem or_join2 {x y : Int} {r : Nat} (hr : r ≤ 64) (hx : Wd x) (hy : Wd y) : bits .or .u64 (x / 2 ^ r) (IntKind.u64.wrap (y * 2 ^ (64 - r))) = x / 2 ^ r + y * 2 ^ (64 - r) % 18446744073709551616 := by
  have hc : bits .or .u64 (x / 2 ^ r) (IntKind.u64.wrap (y * 2 ^ (64 - r))) = bits .or .u64 (IntKind.u64.wrap (y * 2 ^ (64 - r))) (x / 2 ^ r) := by
    simp only [bits, BitVec.or_comm]
  rw [hc]
  obtain ⟨x0, x1⟩ := hx; obtain ⟨y0, y1⟩ := hy
  obtain ⟨X, rfl⟩ := Int.eq_ofNat_of_zero_le x0
  obtain ⟨Y, rfl⟩ := Int.eq_ofNat_of_zero_le y0
  have h := or_join_nat (r := 64 - r) (X := Y) (Y := X) (by omega) (by omega) (by omega)
  rw [show 64 - (64 - r) = r by omega] at h
  rw [wrap_u64, cast_mul, cast_div, cast_mod, cast_add, h.1, ← h.2, Nat.add_comm]
theorem shr_w (V q r k : Nat) (hr : r ≤ 64) : wd (V / 2 ^ (64 * q + r)) k = bits .or .u64 (wd V (k + q) / 2 ^ r) (IntKind.u64.wrap (wd V (k + q + 1) * 2 ^ (64 - r))) := by
  rw [or_join2 hr (wd_wd _ _) (wd_wd _ _), wd_eq, shr_nat _ _ _ _ hr, wd_eq, wd_eq, cast_mul, cast_div, cast_mod, cast_add]
theorem wd_high {V k : Nat} (h : V < 115792089237316195423570985008687907853269984665640564039457584007913129639936) (hk : 4 ≤ k) : wd V k = 0 := by
  rw [wd_eq, Nat.div_eq_of_lt]
  · rfl
  · refine Nat.lt_of_lt_of_le h ?_
    rw [show (115792089237316195423570985008687907853269984665640564039457584007913129639936 : Nat) = 2 ^ 256 by decide]
    exact Nat.pow_le_pow_right (by decide) (by omega)
theorem or_zero (x : Int) (h : Wd x) : bits .or .u64 0 x = x := by
  obtain ⟨x0, x1⟩ := h
  obtain ⟨X, rfl⟩ := Int.eq_ofNat_of_zero_le x0
  have := (bits_nat .u64 64 (by decide) (fun n h0 h1 => IntWalk.u64_in n (by omega)) 0 X (by decide) (by omega)).2
  simpa using this
theorem wd_div {x : Int} (h : Wd x) (r : Nat) : Wd (x / 2 ^ r) := by
  obtain ⟨x0, x1⟩ := h
  obtain ⟨X, rfl⟩ := Int.eq_ofNat_of_zero_le x0
  rw [cast_div]
  have := Nat.div_le_self X (2 ^ r)
  generalize X / 2 ^ r = Q at *
  exact ⟨by omega, by omega⟩
theorem or_zero2 (x : Int) (h : Wd x) : bits .or .u64 x 0 = x := by
  have := or_zero x h
  simp only [bits, BitVec.or_comm] at this ⊢
  exact this
theorem shr_zero (r : Nat) : (0 : Int) = bits .or .u64 (0 / 2 ^ r) (IntKind.u64.wrap (0 * 2 ^ (64 - r))) := by
  rw [Int.zero_mul, Int.zero_ediv]; rfl
theorem shr_top {x : Int} (h : Wd x) (r : Nat) : bits .or .u64 0 (x / 2 ^ r) = bits .or .u64 (x / 2 ^ r) (IntKind.u64.wrap (0 * 2 ^ (64 - r))) := by
  rw [Int.zero_mul, or_zero _ (wd_div h r), show IntKind.u64.wrap 0 = 0 from rfl, or_zero2 _ (wd_div h r)]
theorem shr_mid {x : Int} (h : Wd x) (r : Nat) (y : Int) : bits .or .u64 (bits .or .u64 0 (x / 2 ^ r)) y = bits .or .u64 (x / 2 ^ r) y := by
  rw [or_zero _ (wd_div h r)]
end Go.Proofs.Ytmelipbanbihdaa
