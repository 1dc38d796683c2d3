/- Div: the greatest quotient, and the rest, of any two numbers. -/
import Derived.Test.YtmelipbanbihdaaDivWalk
namespace Go.Proofs.Ytmelipbanbihdaa
open Go.RowKit

theorem ret_div {a b c d e f a' b' c' d' e' f' : Int} (h1 : a = a') (h2 : b = b') (h3 : c = c') (h4 : d = d') (h5 : e = e') (h6 : f = f') :
    Ending.returned (.tuple #[.agg #[.int .u64 a, .int .u64 b, .int .u64 c, .int .u64 d], .agg #[.int .u64 e, .int .u64 f], .bool true]) = .returned (.tuple #[.agg #[.int .u64 a', .int .u64 b', .int .u64 c', .int .u64 d'], .agg #[.int .u64 e', .int .u64 f'], .bool true]) := by
  rw [h1, h2, h3, h4, h5, h6]
theorem div_any (a3 a2 a1 a0 b1 b0 : Int) (h3 : Wd a3) (h2 : Wd a2) (h1 : Wd a1) (h0 : Wd a0) (k1 : Wd b1) (k0 : Wd b0) (hb : v2 b1 b0 ≠ 0) (w : World) :
    Calls Try.prog 77 #[.agg #[.int .u64 a3, .int .u64 a2, .int .u64 a1, .int .u64 a0], .agg #[.int .u64 b1, .int .u64 b0]] w fun e w' =>
      e = .returned (.tuple #[.agg #[.int .u64 (wd (v4 a3 a2 a1 a0 / v2 b1 b0) 3), .int .u64 (wd (v4 a3 a2 a1 a0 / v2 b1 b0) 2), .int .u64 (wd (v4 a3 a2 a1 a0 / v2 b1 b0) 1), .int .u64 (wd (v4 a3 a2 a1 a0 / v2 b1 b0) 0)],
        .agg #[.int .u64 (wd (v4 a3 a2 a1 a0 % v2 b1 b0) 1), .int .u64 (wd (v4 a3 a2 a1 a0 % v2 b1 b0) 0)], .bool true]) ∧ Below w.heap.size w w' := by
  have hB := v2_lt k1 k0
  have hA := v4_lt h3 h2 h1 h0
  have hl : blen (v2 b1 b0) ≤ 128 := blen_le (by rw [show (2 : Nat) ^ 128 = 340282366920938463463374607431768211456 by decide]; exact hB)
  have hg := (blen_ge hb).1
  have ht := top_set hb hB
  have hz : Wd (0 : Int) := ⟨by decide, by decide⟩
  have ev : v4 0 0 b1 b0 = v2 b1 b0 := by unfold v4; rw [show v2 0 0 = 0 from rfl, Nat.zero_mul, Nat.zero_add]
  have eu : (128 - ((blen (v2 b1 b0) : Nat) : Int)).toNat = 128 - blen (v2 b1 b0) := by omega
  have C1 := len_any 0 0 b1 b0 hz hz k1 k0
  have C2 := shl_any 0 0 b1 b0 (128 - ((blen (v2 b1 b0) : Nat) : Int)) hz hz k1 k0 (by omega)
  rw [ev] at C1 C2
  rw [eu] at C2
  have C3 := halves_any _ _ (wd_wd (v2 b1 b0 * 2 ^ (128 - blen (v2 b1 b0))) 1) (wd_wd (v2 b1 b0 * 2 ^ (128 - blen (v2 b1 b0))) 0)
  have C4 := fun W => dividend_raw a3 a2 a1 a0 (128 - ((blen (v2 b1 b0) : Nat) : Int)) h3 h2 h1 h0 (by omega) (by omega) W _ _ _ _ _ _ rfl rfl rfl rfl rfl rfl
  rw [eu, show (256 - (128 - ((blen (v2 b1 b0) : Nat) : Int))).toNat = 256 - (128 - blen (v2 b1 b0)) by omega] at C4
  have hV := hv4_two (wd_wd (v2 b1 b0 * 2 ^ (128 - blen (v2 b1 b0))) 1) (wd_wd (v2 b1 b0 * 2 ^ (128 - blen (v2 b1 b0))) 0)
  rw [v2_small ht.1] at hV
  have hX1 := hv4_two (wd_wd (v4 a3 a2 a1 a0 * 2 ^ (128 - blen (v2 b1 b0))) 1) (wd_wd (v4 a3 a2 a1 a0 * 2 ^ (128 - blen (v2 b1 b0))) 0)
  have hX2 := hv4_two (wd_wd (v4 a3 a2 a1 a0 * 2 ^ (128 - blen (v2 b1 b0))) 3) (wd_wd (v4 a3 a2 a1 a0 * 2 ^ (128 - blen (v2 b1 b0))) 2)
  have hX3 := hv4_two (wd_wd (v4 a3 a2 a1 a0 / 2 ^ (256 - (128 - blen (v2 b1 b0)))) 1) (wd_wd (v4 a3 a2 a1 a0 / 2 ^ (256 - (128 - blen (v2 b1 b0)))) 0)
  have hS := twelve_sum hA (show 128 - blen (v2 b1 b0) ≤ 128 by omega)
  have hU := upper_less hA (show 128 - blen (v2 b1 b0) ≤ 127 by omega) ht.2
  have hU2 : v4 a3 a2 a1 a0 / 2 ^ (256 - (128 - blen (v2 b1 b0))) < 340282366920938463463374607431768211456 := Nat.lt_trans hU ht.1
  have hT : (2147483648 : Int) ≤ wd (v2 b1 b0 * 2 ^ (128 - blen (v2 b1 b0))) 1 / 4294967296 := by
    have := ht.1; have := ht.2
    rw [wd1]; omega
  refine (div_walk a3 a2 a1 a0 b1 b0 _ _ _ _ _ _ _ _ _ _ _ _ _ _ _ _ _ _ _ _ _ (hf_lo (wd_wd _ _)) (hf_hi (wd_wd _ _)) (hf_lo (wd_wd _ _)) (hf_hi (wd_wd _ _)) (hf_lo (wd_wd _ _)) (hf_hi (wd_wd _ _)) (hf_lo (wd_wd _ _)) (hf_hi (wd_wd _ _)) (hf_lo (wd_wd _ _)) (hf_hi (wd_wd _ _)) (hf_lo (wd_wd _ _)) (hf_hi (wd_wd _ _)) (hf_lo (wd_wd _ _)) (hf_hi (wd_wd _ _)) (hf_lo (wd_wd _ _)) (hf_hi (wd_wd _ _))
    hT ?_ (Int.natCast_nonneg _) (by omega) (fun h => hb (by rw [h.1, h.2]; rfl)) w C1 C2 C3 C4).mono ?_
  · rw [hX3, hV, v2_small hU2]; exact_mod_cast hU
  rintro e w' ⟨q0, q1, q2, q3, q4, q5, q6, q7, y0, y1, y2, y3, hq0, hq1, hq2, hq3, hq4, hq5, hq6, hq7, hy0, hy1, hy2, hy3, hsum, hlt, rfl, hbl⟩
  refine ⟨?_, hbl⟩
  rw [hX1, hX2, hX3, hV] at hsum
  rw [hV] at hlt
  have hS' : (((v2 (wd (v4 a3 a2 a1 a0 * 2 ^ (128 - blen (v2 b1 b0))) 1) (wd (v4 a3 a2 a1 a0 * 2 ^ (128 - blen (v2 b1 b0))) 0) : Nat) : Int) + ((v2 (wd (v4 a3 a2 a1 a0 * 2 ^ (128 - blen (v2 b1 b0))) 3) (wd (v4 a3 a2 a1 a0 * 2 ^ (128 - blen (v2 b1 b0))) 2) : Nat) : Int) * 340282366920938463463374607431768211456) = ((v4 (wd (v4 a3 a2 a1 a0 * 2 ^ (128 - blen (v2 b1 b0))) 3) (wd (v4 a3 a2 a1 a0 * 2 ^ (128 - blen (v2 b1 b0))) 2) (wd (v4 a3 a2 a1 a0 * 2 ^ (128 - blen (v2 b1 b0))) 1) (wd (v4 a3 a2 a1 a0 * 2 ^ (128 - blen (v2 b1 b0))) 0) : Nat) : Int) := by
    unfold v4; omega
  rw [hS', hS] at hsum
  have hr := hv4_lt hy0 hy1 hy2 hy3
  have hQ := quo_nonneg hq0 hq1 hq2 hq3 hq4 hq5 hq6 hq7
  have hend := div_end hb hQ.1 hsum hr.1 hlt
  have hw := quo_words hq0 hq1 hq2 hq3 hq4 hq5 hq6 hq7 hend.1
  rw [rest_word hy0 hy1 hy2 hy3, eu, hend.2]
  exact ret_div hw.1 hw.2.1 hw.2.2.1 hw.2.2.2 rfl rfl
end Go.Proofs.Ytmelipbanbihdaa
