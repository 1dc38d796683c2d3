/- PairFar, from what the program's Pull comes to. -/
import Derived.Test.YtmmlekgojblopaaPairEnd2
import Derived.Test.YtmmlekgojblopaaPairEnd3
import Derived.Test.YtmmlekgojblopaaPairFarW
namespace Go.Proofs.Ytmmlekgojblopaa
open Go.RowKit
theorem rdiv_is (x y q : Int) (hx : My x) (hy : My y) (h0 : y ≠ 0) (hq : divr x y = q) (hm : My q) (w : World) :
    Calls Try.prog 17 #[.agg #[.int .i64 (fh x), .int .u64 (fl x)], .agg #[.int .i64 (fh y), .int .u64 (fl y)]] w fun e w' => e = .returned (.agg #[.int .i64 (fh q), .int .u64 (fl q), .int .i64 0]) ∧ Below w.heap.size w w' := by
  have k := rdivf_any x y hx hy h0 w
  rw [hq, ov_in hm, oe_in hm] at k
  exact k
theorem rdiv_nat {M R q : Nat} (hM : M ≤ 4294967296) (hR : 0 < R) (hR2 : R ≤ 4294967296) (h : M * 18446744073709551616 = R * q) (w : World) :
    (Calls Try.prog 17 #[.agg #[.int .i64 (fh ((M * 18446744073709551616 : Nat) : Int)), .int .u64 (fl ((M * 18446744073709551616 : Nat) : Int))], .agg #[.int .i64 (fh ((R * 18446744073709551616 : Nat) : Int)), .int .u64 (fl ((R * 18446744073709551616 : Nat) : Int))]] w fun e w' => e = .returned (.agg #[.int .i64 (fh (q : Int)), .int .u64 (fl (q : Int)), .int .i64 0]) ∧ Below w.heap.size w w') ∧
    Calls Try.prog 17 #[.agg #[.int .i64 (fh (-((M * 18446744073709551616 : Nat) : Int))), .int .u64 (fl (-((M * 18446744073709551616 : Nat) : Int)))], .agg #[.int .i64 (fh ((R * 18446744073709551616 : Nat) : Int)), .int .u64 (fl ((R * 18446744073709551616 : Nat) : Int))]] w fun e w' => e = .returned (.agg #[.int .i64 (fh (-(q : Int))), .int .u64 (fl (-(q : Int))), .int .i64 0]) ∧ Below w.heap.size w w' := by
  have d := divr_exact (M := M) (R := R) (q := q) hR h
  have b : q ≤ M * 18446744073709551616 := by rw [h]; exact Nat.le_mul_of_pos_left _ hR
  have mq : My (q : Int) := by unfold My; omega
  have mn : My (-(q : Int)) := by unfold My; omega
  have mM : My (-((M * 18446744073709551616 : Nat) : Int)) := by unfold My; omega
  exact ⟨rdiv_is _ _ _ (my_nat64 hM) (my_nat64 hR2) (by omega) d mq w, rdiv_is _ _ _ mM (my_nat64 hR2) (by omega) ((divr_ng _ _).trans (congrArg Neg.neg d)) mn w⟩
theorem far_any (C : PulT) (m n far : Int) (m1 : 0 ≤ m) (m2 : m < 256) (n1 : 0 ≤ n) (n2 : n < 256) (f1 : 0 ≤ far) (f2 : far < 256) (A B R Y Z : Nat) (eA : 1 + m = (A : Int)) (eB : 1 + n = (B : Int)) (er : wrap64 (2 ^ (far % 8).toNat) = (R : Int)) (hR : 0 < R) (hR2 : R ≤ 128) (hY : A * B * 18446744073709551616 = R * R * (R * Y)) (hZ : A * B * 18446744073709551616 = 2 * R * (2 * R) * (2 * R * Z)) (w : World) :
    Calls Try.prog 5 #[.int .u8 m, .int .u8 n, .int .u8 far] w fun e w' => e = .returned (.bool true) ∧ Below w.heap.size w w' := by
  have hA : A ≤ 256 := by omega
  have hB : B ≤ 256 := by omega
  have hAB : A * B ≤ 256 * 256 := Nat.mul_le_mul hA hB
  have hRR : R * R ≤ 128 * 128 := Nat.mul_le_mul hR2 hR2
  have rp : 0 < R * R := Nat.mul_pos hR hR
  have i1 := rint_any 1
  rw [show (1 : Int) = ((1 : Nat) : Int) from rfl, intr_nat 1 (by decide)] at i1
  have iA := rint_any (A : Int); have iB := rint_any (B : Int); have iR := rint_any (R : Int)
  rw [intr_nat A (by omega)] at iA; rw [intr_nat B (by omega)] at iB; rw [intr_nat R (by omega)] at iR
  have iS := rint_any (-((2 * R : Nat) : Int))
  rw [show intr (-((2 * R : Nat) : Int)) = -((2 * R * 18446744073709551616 : Nat) : Int) by unfold intr; rw [if_neg (by omega)]; omega] at iS
  have iP := rint_any ((A * B : Nat) : Int); rw [intr_nat (A * B) (by omega)] at iP
  have iQ := rint_any ((R * R : Nat) : Int); rw [intr_nat (R * R) (by omega)] at iQ
  have iU := rint_any (-((A * B : Nat) : Int))
  rw [show intr (-((A * B : Nat) : Int)) = -((A * B * 18446744073709551616 : Nat) : Int) by unfold intr; rw [if_neg (by omega)]; omega] at iU
  have e4 : 2 * R * (2 * R) = 4 * (R * R) := by grind
  have iV := rint_any ((2 * R * (2 * R) : Nat) : Int); rw [intr_nat (2 * R * (2 * R)) (by omega)] at iV
  have p1 := line_pull C (G := 1) (A := A) (B := B) (D := R) (e := 0) (H := 1) (by decide) (by omega) (by omega) (by decide) (by omega) (by omega) (by omega)
  have k1 : R * kk (1 * (A * B) * 1) (R * R + 0 * 0) = R * Y := by
    rw [Nat.one_mul, Nat.mul_one, Nat.zero_mul, Nat.add_zero, kk_exact hR hY]
  rw [k1] at p1
  have hP : pul ((1 * 18446744073709551616 : Nat) : Int) ((A * 18446744073709551616 : Nat) : Int) ((B * 18446744073709551616 : Nat) : Int) 0 (-((2 * R * 18446744073709551616 : Nat) : Int)) 0 ((1 * 18446744073709551616 : Nat) : Int) = (0, -((2 * R * Z : Nat) : Int), 0) := by
    have l := pul_line (G := 1) (A := A) (B := B) (D := 2 * R) (e := 0) (H := 1) (by decide) (by omega) (by omega) (by decide) (by omega) (by omega) (by omega)
    rw [Nat.one_mul (A * B), Nat.mul_one (A * B), show (0 : Nat) * 0 = 0 from rfl, Nat.add_zero, kk_exact (r := 2 * R) (by omega) hZ] at l
    have l' : pul ((1 * 18446744073709551616 : Nat) : Int) ((A * 18446744073709551616 : Nat) : Int) ((B * 18446744073709551616 : Nat) : Int) ((2 * R * 18446744073709551616 : Nat) : Int) 0 0 ((1 * 18446744073709551616 : Nat) : Int) = (((2 * R * Z : Nat) : Int), 0, 0) := l
    have y := pul_d ((1 * 18446744073709551616 : Nat) : Int) ((A * 18446744073709551616 : Nat) : Int) ((B * 18446744073709551616 : Nat) : Int) ((2 * R * 18446744073709551616 : Nat) : Int) 0 0 ((1 * 18446744073709551616 : Nat) : Int)
    rw [l', Int.neg_zero] at y
    have x := pul_xy ((1 * 18446744073709551616 : Nat) : Int) ((A * 18446744073709551616 : Nat) : Int) ((B * 18446744073709551616 : Nat) : Int) (-((2 * R * 18446744073709551616 : Nat) : Int)) 0 0 ((1 * 18446744073709551616 : Nat) : Int)
    rw [y] at x
    rw [x]; rfl
  have m64 : ∀ {M : Nat}, M ≤ 4294967296 → My (-((M * 18446744073709551616 : Nat) : Int)) := fun h => by unfold My; omega
  have p2 := C ((1 * 18446744073709551616 : Nat) : Int) ((A * 18446744073709551616 : Nat) : Int) ((B * 18446744073709551616 : Nat) : Int) 0 (-((2 * R * 18446744073709551616 : Nat) : Int)) 0 ((1 * 18446744073709551616 : Nat) : Int) (my_nat64 (by decide)) (my_nat64 (by omega)) (my_nat64 (by omega)) (by unfold My; omega) (m64 (by omega)) (by unfold My; omega) (my_nat64 (by decide))
  rw [hP] at p2
  have z0 := zero_words.1; have z1 := zero_words.2
  have q1 := fun W => (rdiv_nat (M := A * B) (R := R * R) (q := R * Y) (by omega) rp (by omega) hY W).1
  have q2 := fun W => (rdiv_nat (M := A * B) (R := 2 * R * (2 * R)) (q := 2 * R * Z) (by omega) (by omega) (by omega) hZ W).2
  unfold pv at p2
  simp only [fxv, Nat.zero_mul, z0, z1] at p1 p2 
  exact pairFar_core m n far (A : Int) (B : Int) (R : Int) (-((2 * R : Nat) : Int)) ((A * B : Nat) : Int) ((R * R : Nat) : Int) (-((A * B : Nat) : Int)) ((2 * R * (2 * R) : Nat) : Int) ((4 * R : Nat) : Int) _ _ _ _ _ _ _ _ _ _ _ _ _ _ _ _ _ _ _ _ _ _ _ _ ⟨m1, m2⟩ ⟨n1, n2⟩ ⟨f1, f2⟩ eA eB er (by rw [IntWalk.i64_in _ (by omega)]; omega) (by rw [IntWalk.i64_in _ (by omega)]; omega) (by rw [← Int.natCast_mul, IntWalk.i64_in _ (by omega)]) (by rw [← Int.natCast_mul, IntWalk.i64_in _ (by omega)]) (by rw [Int.neg_mul, ← Int.natCast_mul, IntWalk.i64_in _ (by omega)]) (by rw [← Int.natCast_mul, IntWalk.i64_in _ (by omega)]) (by rw [IntWalk.i64_in _ (by omega)]; omega) (by rw [← Int.natCast_mul, show 4 * R * R = 2 * R * (2 * R) by grind, IntWalk.i64_in _ (by omega)]) w i1 iA iB iR iS p1 p2 iP iQ q1 iU iV q2 (num_any 0) (pawake_any C)
theorem pairFar_any (C : PulT) (m n far : Int) (m1 : 0 ≤ m) (m2 : m < 256) (n1 : 0 ≤ n) (n2 : n < 256) (f1 : 0 ≤ far) (f2 : far < 256) (w : World) :
    Calls Try.prog 5 #[.int .u8 m, .int .u8 n, .int .u8 far] w fun e w' => e = .returned (.bool true) ∧ Below w.heap.size w w' := by
  obtain ⟨A, eA⟩ := Int.eq_ofNat_of_zero_le (show 0 ≤ 1 + m by omega)
  obtain ⟨B, eB⟩ := Int.eq_ofNat_of_zero_le (show 0 ≤ 1 + n by omega)
  have h8 : far % 8 = 0 ∨ far % 8 = 1 ∨ far % 8 = 2 ∨ far % 8 = 3 ∨ far % 8 = 4 ∨ far % 8 = 5 ∨ far % 8 = 6 ∨ far % 8 = 7 := by omega
  have F := fun R Y Z => far_any C m n far m1 m2 n1 n2 f1 f2 A B R Y Z eA eB
  rcases h8 with h | h | h | h | h | h | h | h
  · exact F 1 (A * B * 18446744073709551616) (A * B * 2305843009213693952) (by rw [h]; decide +kernel) (by decide) (by decide) (by generalize A * B = P; omega) (by generalize A * B = P; omega) w
  · exact F 2 (A * B * 2305843009213693952) (A * B * 288230376151711744) (by rw [h]; decide +kernel) (by decide) (by decide) (by generalize A * B = P; omega) (by generalize A * B = P; omega) w
  · exact F 4 (A * B * 288230376151711744) (A * B * 36028797018963968) (by rw [h]; decide +kernel) (by decide) (by decide) (by generalize A * B = P; omega) (by generalize A * B = P; omega) w
  · exact F 8 (A * B * 36028797018963968) (A * B * 4503599627370496) (by rw [h]; decide +kernel) (by decide) (by decide) (by generalize A * B = P; omega) (by generalize A * B = P; omega) w
  · exact F 16 (A * B * 4503599627370496) (A * B * 562949953421312) (by rw [h]; decide +kernel) (by decide) (by decide) (by generalize A * B = P; omega) (by generalize A * B = P; omega) w
  · exact F 32 (A * B * 562949953421312) (A * B * 70368744177664) (by rw [h]; decide +kernel) (by decide) (by decide) (by generalize A * B = P; omega) (by generalize A * B = P; omega) w
  · exact F 64 (A * B * 70368744177664) (A * B * 8796093022208) (by rw [h]; decide +kernel) (by decide) (by decide) (by generalize A * B = P; omega) (by generalize A * B = P; omega) w
  · exact F 128 (A * B * 8796093022208) (A * B * 1099511627776) (by rw [h]; decide +kernel) (by decide) (by decide) (by generalize A * B = P; omega) (by generalize A * B = P; omega) w
end Go.Proofs.Ytmmlekgojblopaa
