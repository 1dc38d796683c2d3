/- How two pull on a line of whole distances, as numbers: no program here. -/
import Derived.Test.YtmmlekgojblopaaPairNum
namespace Go.Proofs.Ytmmlekgojblopaa
theorem divr_nat (x y : Nat) : divr (x : Int) (y : Int) = (((x * 36893488147419103232 + y) / (2 * y) : Nat) : Int) := by
  unfold divr
  rw [decide_eq_false (show ¬ (x : Int) < 0 by omega), decide_eq_false (show ¬ (y : Int) < 0 by omega), Int.natAbs_natCast, Int.natAbs_natCast]
  rfl
theorem mulr_nat (x y : Nat) : mulr (x : Int) (y : Int) = (((x * y + 9223372036854775808) / 18446744073709551616 : Nat) : Int) := by
  unfold mulr
  rw [decide_eq_false (show ¬ (x : Int) < 0 by omega), decide_eq_false (show ¬ (y : Int) < 0 by omega), Int.natAbs_natCast, Int.natAbs_natCast]
  rfl
theorem dn_mono {x x' y y' C : Nat} (hx : x ≤ x') (hy : y' ≤ y) (h0 : 0 < y') : (x * C + y) / (2 * y) ≤ (x' * C + y') / (2 * y') := by
  obtain ⟨q, hq⟩ : ∃ q, q = (x' * C + y') / (2 * y') := ⟨_, rfl⟩
  rw [← hq]
  have h1 : x' * C + y' < (q + 1) * (2 * y') := by rw [← Nat.div_lt_iff_lt_mul (by omega), ← hq]; omega
  have h2 : x' * C < (2 * q + 1) * y' := by
    have e : (q + 1) * (2 * y') = (2 * q + 1) * y' + y' := by grind
    omega
  have h3 := Nat.mul_le_mul_left (2 * q + 1) hy
  have h4 := Nat.mul_le_mul_right C hx
  have h5 : x * C + y < (q + 1) * (2 * y) := by
    have e : (q + 1) * (2 * y) = (2 * q + 1) * y + y := by grind
    omega
  have := (Nat.div_lt_iff_lt_mul (show 0 < 2 * y by omega)).2 h5
  omega
theorem isq_mono {a b : Nat} (h : a ≤ b) : isq a ≤ isq b := by
  have := (isq_spec b).2
  exact isq_le (by omega)
/-- What is scaled: by r2, by r. -/
def k1n (M R : Nat) : Nat := (M * 18446744073709551616 * 36893488147419103232 + R * 18446744073709551616) / (2 * (R * 18446744073709551616))
def rrn (R : Nat) : Nat := isq (R * 18446744073709551616 * 18446744073709551616)
def kk (M R : Nat) : Nat := (k1n M R * 36893488147419103232 + rrn R) / (2 * rrn R)
theorem isq_far {R : Nat} (h : 0 < R) : 18446744073709551616 ≤ rrn R := by
  unfold rrn
  have e : isq (18446744073709551616 * 18446744073709551616) = 18446744073709551616 := isq_of (Nat.le_refl _) (by decide)
  have k := isq_mono (a := 18446744073709551616 * 18446744073709551616) (b := R * 18446744073709551616 * 18446744073709551616) (by omega)
  omega
set_option maxRecDepth 20000 in
theorem k1_le {M R : Nat} (h : 0 < R) : k1n M R ≤ M * 18446744073709551616 := by
  unfold k1n
  have k := dn_mono (x := M * 18446744073709551616) (x' := M * 18446744073709551616) (y := R * 18446744073709551616) (y' := 18446744073709551616) (C := 36893488147419103232) (Nat.le_refl _) (by omega) (by decide)
  have e : (M * 18446744073709551616 * 36893488147419103232 + 18446744073709551616) / (2 * 18446744073709551616) = M * 18446744073709551616 := by omega
  omega
set_option maxRecDepth 20000 in
theorem kk_le {M R : Nat} (h : 0 < R) : kk M R ≤ M * 18446744073709551616 := by
  unfold kk
  have h1 := k1_le (M := M) h
  have h2 := isq_far h
  generalize k1n M R = k1 at *
  generalize rrn R = r at *
  have k := dn_mono (x := k1) (x' := k1) (y := r) (y' := 18446744073709551616) (C := 36893488147419103232) (Nat.le_refl _) h2 (by decide)
  have e : (k1 * 36893488147419103232 + 18446744073709551616) / (2 * 18446744073709551616) = k1 := by omega
  omega
set_option maxRecDepth 20000 in
/-- A greater distance, as it is reckoned, pulls less. -/
theorem kk_mono {M R R' : Nat} (h : 0 < R) (hr : R ≤ R') : kk M R' ≤ kk M R := by
  unfold kk
  have h2 := isq_far h
  have h3 : rrn R ≤ rrn R' := isq_mono (by omega)
  have h4 : k1n M R' ≤ k1n M R := dn_mono (x := M * 18446744073709551616) (x' := M * 18446744073709551616) (y := R' * 18446744073709551616) (y' := R * 18446744073709551616) (C := 36893488147419103232) (Nat.le_refl _) (by omega) (by omega)
  exact dn_mono h4 h3 (by omega)
theorem st_ok {v : Int} {k : Int → Int × Int × Int} : st (v, 0) k = k v := rfl
theorem mu_nat {x y z : Nat} (e : (x * y + 9223372036854775808) / 18446744073709551616 = z) (h : z < 170141183460469231731687303715884105728) : mu (x : Int) (y : Int) = ((z : Int), 0) := by
  unfold mu
  rw [mulr_nat, e]
  have hm : My (z : Int) := by unfold My; omega
  rw [ov_in hm, oe_in hm]
set_option maxRecDepth 20000 in
theorem mu_whole {x y : Nat} (h : x * y < 9223372036854775808) : mu ((x * 18446744073709551616 : Nat) : Int) ((y * 18446744073709551616 : Nat) : Int) = (((x * y * 18446744073709551616 : Nat) : Int), 0) := by
  refine mu_nat ?_ (by omega)
  have e : x * 18446744073709551616 * (y * 18446744073709551616) = x * y * 18446744073709551616 * 18446744073709551616 := by grind
  rw [e]; omega
theorem my_nat {z : Nat} (h : z < 170141183460469231731687303715884105728) : My (z : Int) := by unfold My; omega
set_option maxRecDepth 20000 in
theorem pulk_line {M D R : Nat} (hR : 0 < R) (hM : M ≤ 4294967296) (hD : D ≤ 65536) : pulk ((M * 18446744073709551616 : Nat) : Int) ((D * 18446744073709551616 : Nat) : Int) 0 ((R * 18446744073709551616 : Nat) : Int) ((rrn R : Nat) : Int) = (((D * kk M R : Nat) : Int), 0, 0) := by
  have hk := kk_le (M := M) hR
  have h1 := k1_le (M := M) hR
  have h2 := isq_far hR
  obtain ⟨T, hT⟩ : ∃ T : Nat, T = 79228162514264337593543950336 := ⟨_, rfl⟩
  have hp : D * kk M R ≤ 65536 * T := Nat.mul_le_mul hD (by omega)
  unfold kk at hk hp ⊢
  unfold pulk di
  have ed : divr ((M * 18446744073709551616 : Nat) : Int) ((R * 18446744073709551616 : Nat) : Int) = ((k1n M R : Nat) : Int) := divr_nat _ _
  rw [ed]
  generalize k1n M R = k1 at *
  generalize rrn R = r at *
  have m1 : My (k1 : Int) := my_nat (by omega)
  rw [if_neg (by omega), ov_in m1, oe_in m1, st_ok, if_neg (by omega), divr_nat]
  generalize (k1 * 36893488147419103232 + r) / (2 * r) = k2 at *
  have m2 : My (k2 : Int) := my_nat (by omega)
  rw [ov_in m2, oe_in m2, st_ok, mulr_nat]
  have e : (D * 18446744073709551616 * k2 + 9223372036854775808) / 18446744073709551616 = D * k2 := by
    have e : D * 18446744073709551616 * k2 = D * k2 * 18446744073709551616 := by grind
    rw [e]; omega
  have e0 : mulr 0 (k2 : Int) = 0 := by
    have h := mulr_nat 0 k2
    rw [Nat.zero_mul] at h
    exact h
  rw [e, e0]
  have m3 : My ((D * k2 : Nat) : Int) := my_nat (by omega)
  have m0 : My 0 := by unfold My; omega
  obtain ⟨w1, w2, w3⟩ := ve_in (oe_in m3) (oe_in m0)
  rw [w1, w2, w3]
set_option maxRecDepth 20000 in
/-- Of whole distances on a line. -/
theorem pul_line {G A B D e H : Nat} (hG : G ≤ 1) (hA : A ≤ 65535) (hB : B ≤ 65535) (hH : H ≤ 1) (hD : D ≤ 65536) (he : e ≤ 65536) (h0 : 0 < D * D + e * e) :
    pul ((G * 18446744073709551616 : Nat) : Int) ((A * 18446744073709551616 : Nat) : Int) ((B * 18446744073709551616 : Nat) : Int) ((D * 18446744073709551616 : Nat) : Int) 0 ((e * 18446744073709551616 : Nat) : Int) ((H * 18446744073709551616 : Nat) : Int) =
      (((D * kk (G * (A * B) * H) (D * D + e * e) : Nat) : Int), 0, 0) := by
  have dD : D * D ≤ 65536 * 65536 := Nat.mul_le_mul hD hD
  have dE : e * e ≤ 65536 * 65536 := Nat.mul_le_mul he he
  have aB : A * B ≤ 65535 * 65535 := Nat.mul_le_mul hA hB
  have gM : G * (A * B) ≤ 1 * (65535 * 65535) := Nat.mul_le_mul hG aB
  have hM : G * (A * B) * H ≤ 1 * (65535 * 65535) * 1 := Nat.mul_le_mul gM hH
  have e1 : mulr ((D * 18446744073709551616 : Nat) : Int) ((D * 18446744073709551616 : Nat) : Int) = ((D * D * 18446744073709551616 : Nat) : Int) := by
    have h := mu_whole (x := D) (y := D) (by omega)
    have hm : My (mulr ((D * 18446744073709551616 : Nat) : Int) ((D * 18446744073709551616 : Nat) : Int)) := by
      unfold mu at h
      exact oe_my (Prod.mk.inj h).2
    unfold mu at h
    have := (Prod.mk.inj h).1
    rw [ov_in hm] at this; exact this
  have e2 : mulr 0 0 = 0 := by decide
  have m1 : My ((D * D * 18446744073709551616 : Nat) : Int) := my_nat (by omega)
  have m0 : My 0 := by unfold My; omega
  have hd : de ((D * D * 18446744073709551616 : Nat) : Int) 0 = 0 := by
    unfold de; rw [if_pos (oe_in m1), if_pos (oe_in m0), Int.add_zero]; exact oe_in m1
  have hv := (de_zero hd).2.2.2
  unfold pul
  rw [e1, e2, hd, hv, Int.add_zero, st_ok, mu_whole (x := e) (y := e) (by omega), st_ok]
  have ha : ad ((D * D * 18446744073709551616 : Nat) : Int) ((e * e * 18446744073709551616 : Nat) : Int) = ((((D * D + e * e) * 18446744073709551616 : Nat) : Int), 0) := by
    unfold ad
    have ee : ((D * D * 18446744073709551616 : Nat) : Int) + ((e * e * 18446744073709551616 : Nat) : Int) = (((D * D + e * e) * 18446744073709551616 : Nat) : Int) := by omega
    have m : My (((D * D + e * e) * 18446744073709551616 : Nat) : Int) := my_nat (by omega)
    rw [ee, ov_in m, oe_in m]
  rw [ha, st_ok]
  have hs : sq (((D * D + e * e) * 18446744073709551616 : Nat) : Int) = (((rrn (D * D + e * e) : Nat) : Int), 0) := by
    unfold sq sqr rrn
    rw [if_neg (by omega), Int.toNat_natCast]
  rw [hs, st_ok]
  unfold pulm
  rw [mu_whole (x := A) (y := B) (by omega), st_ok, mu_whole (x := G) (y := A * B) (by omega), st_ok, mu_whole (x := G * (A * B)) (y := H) (by omega), st_ok]
  exact pulk_line h0 (by omega) hD
end Go.Proofs.Ytmmlekgojblopaa
