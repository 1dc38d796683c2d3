/- PairEps, from what the program's Pull comes to. -/
import Derived.Test.YtmmlekgojblopaaPairEnd
import Derived.Test.YtmmlekgojblopaaPairEpsW
namespace Go.Proofs.Ytmmlekgojblopaa
open Go.RowKit
theorem intr_nat (M : Nat) (h : M ≤ 4294967296) : intr (M : Int) = ((M * 18446744073709551616 : Nat) : Int) := by
  unfold intr; rw [if_neg (by omega)]; omega
theorem my_nat64 {M : Nat} (h : M ≤ 4294967296) : My ((M * 18446744073709551616 : Nat) : Int) := by unfold My; omega
/-- Of whole distances on a line. -/
theorem line_pull (C : PulT) {G A B D e H : Nat} (hG : G ≤ 1) (hA : A ≤ 65535) (hB : B ≤ 65535) (hH : H ≤ 1) (hD : D ≤ 65536) (he : e ≤ 65536) (h0 : 0 < D * D + e * e) (W : World) :
    Calls Try.prog 11 #[fxv ((G * 18446744073709551616 : Nat) : Int), fxv ((A * 18446744073709551616 : Nat) : Int), fxv ((B * 18446744073709551616 : Nat) : Int), .agg #[.int .i64 (fh ((D * 18446744073709551616 : Nat) : Int)), .int .u64 (fl ((D * 18446744073709551616 : Nat) : Int)), .int .i64 0, .int .u64 0], fxv ((e * 18446744073709551616 : Nat) : Int), fxv ((H * 18446744073709551616 : Nat) : Int)] W
      fun r w' => r = .returned (.tuple #[.agg #[.int .i64 (fh ((D * kk (G * (A * B) * H) (D * D + e * e) : Nat) : Int)), .int .u64 (fl ((D * kk (G * (A * B) * H) (D * D + e * e) : Nat) : Int)), .int .i64 0, .int .u64 0], .int .i64 0]) ∧ Below W.heap.size W w' := by
  have k := C ((G * 18446744073709551616 : Nat) : Int) ((A * 18446744073709551616 : Nat) : Int) ((B * 18446744073709551616 : Nat) : Int) ((D * 18446744073709551616 : Nat) : Int) 0 ((e * 18446744073709551616 : Nat) : Int) ((H * 18446744073709551616 : Nat) : Int) (my_nat64 (by omega)) (my_nat64 (by omega)) (my_nat64 (by omega)) (my_nat64 (by omega)) (by unfold My; omega) (my_nat64 (by omega)) (my_nat64 (by omega)) W
  rw [pul_line hG hA hB hH hD he h0] at k
  unfold pv at k
  rw [zero_words.1, zero_words.2] at k
  exact k
theorem pairEps_any (C : PulT) (m n far a b : Int) (m1 : 0 ≤ m) (m2 : m < 256) (n1 : 0 ≤ n) (n2 : n < 256) (f1 : 0 ≤ far) (f2 : far < 256) (a1 : 0 ≤ a) (a2 : a < 256) (b1 : 0 ≤ b) (b2 : b < 256) (w : World) :
    Calls Try.prog 7 #[.int .u8 m, .int .u8 n, .int .u8 far, .int .u8 a, .int .u8 b] w fun e w' => e = .returned (.bool true) ∧ Below w.heap.size w w' := by
  obtain ⟨lo, hlo⟩ : ∃ lo, lo = (if b < a then b else a) := ⟨_, rfl⟩
  obtain ⟨hi, hhi⟩ : ∃ hi, hi = (if a < b then b else a) := ⟨_, rfl⟩
  have l1 : 0 ≤ lo ∧ lo < 256 ∧ lo ≤ hi ∧ 0 ≤ hi ∧ hi < 256 := by rw [hlo, hhi]; split <;> split <;> omega
  obtain ⟨A, eA⟩ := Int.eq_ofNat_of_zero_le (show 0 ≤ 1 + m by omega)
  obtain ⟨B, eB⟩ := Int.eq_ofNat_of_zero_le (show 0 ≤ 1 + n by omega)
  obtain ⟨D, eD⟩ := Int.eq_ofNat_of_zero_le (show 0 ≤ 1 + far by omega)
  obtain ⟨L, eL⟩ := Int.eq_ofNat_of_zero_le l1.1
  obtain ⟨H, eH⟩ := Int.eq_ofNat_of_zero_le l1.2.2.2.1
  have hA : A ≤ 256 := by omega
  have hB : B ≤ 256 := by omega
  have hD : 0 < D ∧ D ≤ 256 := by omega
  have hL : L ≤ H ∧ H ≤ 256 := by omega
  have p1 := line_pull C (G := 1) (A := A) (B := B) (D := D) (e := L) (H := 1) (by decide) (by omega) (by omega) (by decide) (by omega) (by omega) (by have := Nat.mul_pos hD.1 hD.1; omega)
  have p2 := line_pull C (G := 1) (A := A) (B := B) (D := D) (e := H) (H := 1) (by decide) (by omega) (by omega) (by decide) (by omega) (by omega) (by have := Nat.mul_pos hD.1 hD.1; omega)
  have mono := line_mono (M := 1 * (A * B) * 1) (D := D) (e := L) (e' := H) (by have := Nat.mul_pos hD.1 hD.1; omega) hL.1
  have i1 := rint_any 1
  rw [show (1 : Int) = ((1 : Nat) : Int) from rfl, intr_nat 1 (by decide)] at i1
  have iA := rint_any (1 + m); have iB := rint_any (1 + n); have iD := rint_any (1 + far); have iL := rint_any lo; have iH := rint_any hi
  rw [show intr (1 + m) = ((A * 18446744073709551616 : Nat) : Int) by rw [eA]; exact intr_nat A (by omega)] at iA
  rw [show intr (1 + n) = ((B * 18446744073709551616 : Nat) : Int) by rw [eB]; exact intr_nat B (by omega)] at iB
  rw [show intr (1 + far) = ((D * 18446744073709551616 : Nat) : Int) by rw [eD]; exact intr_nat D (by omega)] at iD
  rw [show intr lo = ((L * 18446744073709551616 : Nat) : Int) by rw [eL]; exact intr_nat L (by omega)] at iL
  rw [show intr hi = ((H * 18446744073709551616 : Nat) : Int) by rw [eH]; exact intr_nat H (by omega)] at iH
  generalize D * kk (1 * (A * B) * 1) (D * D + L * L) = J at *
  generalize D * kk (1 * (A * B) * 1) (D * D + H * H) = K at *
  have c1 := rfcmp_any ((J : Nat) : Int) 0
  rw [zero_words.1, zero_words.2] at c1
  have c2 := rfcmp_any ((K : Nat) : Int) ((J : Nat) : Int)
  exact pairEps_core m n far a b lo hi _ _ _ _ _ _ _ _ _ _ _ _ _ _ _ _ _ _ ⟨m1, m2⟩ ⟨n1, n2⟩ ⟨f1, f2⟩ ⟨a1, a2⟩ ⟨b1, b2⟩ hlo.symm hhi.symm (by unfold icmp; split <;> (try split) <;> omega) (by unfold icmp; split <;> (try split) <;> omega) w i1 iD iA iB iL iH p1 p2 (num_any 0) c1 c2 (pawake_any C)
end Go.Proofs.Ytmmlekgojblopaa
