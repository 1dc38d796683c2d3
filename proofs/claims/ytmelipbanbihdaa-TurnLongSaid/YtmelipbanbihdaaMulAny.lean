/- Mul, of any two numbers. -/
import Derived.Test.YtmelipbanbihdaaMul
import Derived.Test.YtmelipbanbihdaaDivEnd
namespace Go.Proofs.Ytmelipbanbihdaa
open Go.RowKit

theorem mul_any (a1 a0 b1 b0 : Int) (ha1 : Wd a1) (ha0 : Wd a0) (hb1 : Wd b1) (hb0 : Wd b0) (w : World) :
    Calls Try.prog 69 #[.agg #[.int .u64 a1, .int .u64 a0], .agg #[.int .u64 b1, .int .u64 b0]] w fun e w' =>
      e = .returned (.agg #[.int .u64 (wd (v2 a1 a0 * v2 b1 b0) 3), .int .u64 (wd (v2 a1 a0 * v2 b1 b0) 2), .int .u64 (wd (v2 a1 a0 * v2 b1 b0) 1), .int .u64 (wd (v2 a1 a0 * v2 b1 b0) 0)]) ∧ Below w.heap.size w w' := by
  refine (mul_walk a1 a0 b1 b0 _ _ _ _ _ _ _ _ (hf_lo ha0) (hf_hi ha0) (hf_lo ha1) (hf_hi ha1) (hf_lo hb0) (hf_hi hb0) (hf_lo hb1) (hf_hi hb1) w (halves_any a1 a0 ha1 ha0) (halves_any b1 b0 hb1 hb0)).mono ?_
  rintro e w' ⟨r0, r1, r2, r3, r4, r5, r6, r7, h0, h1, h2, h3, h4, h5, h6, h7, hs, rfl, hb⟩
  rw [hv4_two ha1 ha0, hv4_two hb1 hb0, ← Int.natCast_mul] at hs
  obtain ⟨e3, e2, e1, e0⟩ := mul_words h0 h1 h2 h3 h4 h5 h6 h7 hs
  rw [e3, e2, e1, e0]
  exact ⟨rfl, hb⟩
theorem mul_lt {a1 a0 b1 b0 : Int} (ha1 : Wd a1) (ha0 : Wd a0) (hb1 : Wd b1) (hb0 : Wd b0) : v2 a1 a0 * v2 b1 b0 < 115792089237316195423570985008687907853269984665640564039457584007913129639936 :=
  Nat.mul_lt_mul'' (c := 340282366920938463463374607431768211456) (d := 340282366920938463463374607431768211456) (v2_lt ha1 ha0) (v2_lt hb1 hb0)
theorem v4_small {n : Nat} (h : n < 115792089237316195423570985008687907853269984665640564039457584007913129639936) : v4 (wd n 3) (wd n 2) (wd n 1) (wd n 0) = n := by rw [v4_wd]; exact Nat.mod_eq_of_lt h
end Go.Proofs.Ytmelipbanbihdaa
