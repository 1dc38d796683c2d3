/- Plain numbers: words of 64 bits, halves of 32, wide numbers of two and four words. No program here. -/
import Derived.WalkKit
import Derived.OpenShut
namespace Go.Proofs.Ytmelipbanbihdaa

def Wd (x : Int) : Prop := 0 ≤ x ∧ x < 18446744073709551616
def Hf (x : Int) : Prop := 0 ≤ x ∧ x < 4294967296
def v2 (h l : Int) : Nat := h.toNat * 18446744073709551616 + l.toNat
def v4 (a b c d : Int) : Nat := v2 a b * 340282366920938463463374607431768211456 + v2 c d
def wd (n i : Nat) : Int := ((n / 2 ^ (64 * i) % 2 ^ 64 : Nat) : Int)
def hf (n i : Nat) : Int := ((n / 2 ^ (32 * i) % 2 ^ 32 : Nat) : Int)

theorem wrap_u64 (n : Int) : IntKind.u64.wrap n = n % 18446744073709551616 := by
  simp [IntKind.wrap, IntKind.bits, IntKind.signed]
theorem wd_wd (n i : Nat) : Wd (wd n i) := by
  unfold Wd wd
  have : n / 2 ^ (64 * i) % 2 ^ 64 < 2 ^ 64 := Nat.mod_lt _ (by decide)
  omega
theorem hf_hf (n i : Nat) : Hf (hf n i) := by
  unfold Hf hf
  have : n / 2 ^ (32 * i) % 2 ^ 32 < 2 ^ 32 := Nat.mod_lt _ (by decide)
  omega
theorem wd0 (n : Nat) : wd n 0 = ((n % 18446744073709551616 : Nat) : Int) := by simp [wd]
theorem wd1 (n : Nat) : wd n 1 = ((n / 18446744073709551616 % 18446744073709551616 : Nat) : Int) := by simp [wd]
theorem wd2 (n : Nat) : wd n 2 = ((n / 340282366920938463463374607431768211456 % 18446744073709551616 : Nat) : Int) := by simp [wd]
theorem wd3 (n : Nat) : wd n 3 = ((n / 6277101735386680763835789423207666416102355444464034512896 % 18446744073709551616 : Nat) : Int) := by simp [wd]
theorem v2_wd (n : Nat) : v2 (wd n 1) (wd n 0) = n % 340282366920938463463374607431768211456 := by
  rw [wd0, wd1]; unfold v2; omega
theorem v2_wd23 (n : Nat) : v2 (wd n 3) (wd n 2) = n / 340282366920938463463374607431768211456 % 340282366920938463463374607431768211456 := by
  rw [wd2, wd3]; unfold v2; omega
theorem v4_wd (n : Nat) : v4 (wd n 3) (wd n 2) (wd n 1) (wd n 0) = n % 115792089237316195423570985008687907853269984665640564039457584007913129639936 := by
  unfold v4; rw [v2_wd, v2_wd23]; omega
theorem v2_lt {h l : Int} (a : Wd h) (b : Wd l) : v2 h l < 340282366920938463463374607431768211456 := by
  obtain ⟨_, _⟩ := a; obtain ⟨_, _⟩ := b; unfold v2; omega
theorem wd_v2_0 {h l : Int} (_ : Wd h) (b : Wd l) : wd (v2 h l) 0 = l := by
  obtain ⟨_, _⟩ := b; rw [wd0]; unfold v2; omega
theorem wd_v2_1 {h l : Int} (a : Wd h) (b : Wd l) : wd (v2 h l) 1 = h := by
  obtain ⟨_, _⟩ := a; obtain ⟨_, _⟩ := b; rw [wd1]; unfold v2; omega
theorem v4_lt {x y z t : Int} (a : Wd x) (b : Wd y) (c : Wd z) (d : Wd t) : v4 x y z t < 115792089237316195423570985008687907853269984665640564039457584007913129639936 := by
  have h1 := v2_lt a b; have h2 := v2_lt c d; unfold v4; omega
theorem wd_v4_0 {x y z t : Int} (_ : Wd x) (_ : Wd y) (c : Wd z) (d : Wd t) : wd (v4 x y z t) 0 = t := by
  have h1 := wd_v2_0 c d; rw [wd0] at h1 ⊢; unfold v4; omega
theorem wd_v4_1 {x y z t : Int} (_ : Wd x) (_ : Wd y) (c : Wd z) (d : Wd t) : wd (v4 x y z t) 1 = z := by
  have h1 := wd_v2_1 c d; rw [wd1] at h1 ⊢; unfold v4; omega
theorem wd_v4_2 {x y z t : Int} (a : Wd x) (b : Wd y) (c : Wd z) (d : Wd t) : wd (v4 x y z t) 2 = y := by
  have h1 := wd_v2_0 a b; have h2 := v2_lt c d; rw [wd0] at h1; rw [wd2]; unfold v4; omega
theorem wd_v4_3 {x y z t : Int} (a : Wd x) (b : Wd y) (c : Wd z) (d : Wd t) : wd (v4 x y z t) 3 = x := by
  have h1 := wd_v2_1 a b; have h2 := v2_lt c d; have h3 := v2_lt a b; rw [wd1] at h1; rw [wd3]; unfold v4; omega

/-! Bits of a word. -/
theorem ofInt_wrap (r : BitVec 64) : BitVec.ofInt 64 (IntKind.u64.wrap r.toNat) = r := by
  rw [wrap_u64]
  apply BitVec.eq_of_toNat_eq
  have := r.isLt
  simp only [BitVec.toNat_ofInt]
  omega
theorem ofInt_and (x y : Int) : BitVec.ofInt 64 (bits .and .u64 x y) = BitVec.ofInt 64 x &&& BitVec.ofInt 64 y := ofInt_wrap _
theorem ofInt_or (x y : Int) : BitVec.ofInt 64 (bits .or .u64 x y) = BitVec.ofInt 64 x ||| BitVec.ofInt 64 y := ofInt_wrap _
theorem ofInt_xor (x y : Int) : BitVec.ofInt 64 (bits .xor .u64 x y) = BitVec.ofInt 64 x ^^^ BitVec.ofInt 64 y := ofInt_wrap _
theorem ofInt_andNot (x y : Int) : BitVec.ofInt 64 (bits .andNot .u64 x y) = BitVec.ofInt 64 x &&& ~~~ BitVec.ofInt 64 y := ofInt_wrap _
theorem bits_wd (op : BinOp) (x y : Int) : Wd (bits op .u64 x y) := by
  have := wf_bits op .u64 x y
  simp [Lit.wf, IntKind.min, IntKind.max, IntKind.signed, IntKind.bits] at this
  exact ⟨by omega, by omega⟩
theorem top_of {x : Int} (h : Wd x) : x / 9223372036854775808 = ((BitVec.ofInt 64 x).msb.toNat : Int) := by
  obtain ⟨h0, h1⟩ := h
  rw [BitVec.msb_eq_decide, BitVec.toNat_ofInt]
  by_cases k : 9223372036854775808 ≤ x
  · rw [decide_eq_true (by omega)]; simp; omega
  · rw [decide_eq_false (by omega)]; simp; omega
theorem msb_of {x : Int} (h : Wd x) : (BitVec.ofInt 64 x).msb = decide (9223372036854775808 ≤ x) := by
  obtain ⟨h0, h1⟩ := h
  rw [BitVec.msb_eq_decide, BitVec.toNat_ofInt]
  congr 1
  simp only [eq_iff_iff]
  omega

theorem carry_of {a b c : Int} (ha : Wd a) (hb : Wd b) (h0 : 0 ≤ c) (h1 : c ≤ 1) :
    bits .or .u64 (bits .and .u64 a b) (bits .andNot .u64 (bits .or .u64 a b) ((a + b + c) % 18446744073709551616)) / 9223372036854775808 = (a + b + c) / 18446744073709551616 := by
  have hs : Wd ((a + b + c) % 18446744073709551616) := ⟨by omega, by omega⟩
  rw [top_of (bits_wd _ _ _), ofInt_or, ofInt_and, ofInt_andNot, ofInt_or]
  simp only [BitVec.msb_or, BitVec.msb_and, BitVec.msb_not, msb_of ha, msb_of hb, msb_of hs]
  obtain ⟨_, _⟩ := ha; obtain ⟨_, _⟩ := hb
  by_cases k1 : 9223372036854775808 ≤ a <;> by_cases k2 : 9223372036854775808 ≤ b <;> by_cases k3 : 9223372036854775808 ≤ (a + b + c) % 18446744073709551616 <;> simp [k1, k2, k3] <;> omega

/-! How long a number is. -/
def blen (n : Nat) : Nat := if n = 0 then 0 else n.log2 + 1
theorem blen_of {n r : Nat} (h1 : n < 2 ^ r) (h2 : r = 0 ∨ 2 ^ (r - 1) ≤ n) : blen n = r := by
  unfold blen
  by_cases h : n = 0
  · subst h
    rcases h2 with h2 | h2
    · simp [h2]
    · have := Nat.two_pow_pos (r - 1); omega
  · rw [if_neg h]
    rcases h2 with h2 | h2
    · subst h2; simp at h1; omega
    · have hr : r ≠ 0 := fun hr => by subst hr; simp at h1; omega
      have e : r - 1 = n.log2 := by
        symm
        rw [Nat.log2_eq_iff h]
        exact ⟨h2, by rw [show r - 1 + 1 = r by omega]; exact h1⟩
      omega
theorem blen_lt (n : Nat) : n < 2 ^ blen n := by
  unfold blen
  by_cases h : n = 0
  · simp [h]
  · rw [if_neg h]; exact Nat.lt_log2_self
theorem blen_ge {n : Nat} (h : n ≠ 0) : blen n ≠ 0 ∧ 2 ^ (blen n - 1) ≤ n := by
  unfold blen
  rw [if_neg h]
  exact ⟨by omega, by simpa using Nat.log2_self_le h⟩
theorem blen_le {n k : Nat} (h : n < 2 ^ k) : blen n ≤ k := by
  by_cases h0 : n = 0
  · simp [blen, h0]
  · have := blen_ge h0
    have h2 : 2 ^ (blen n - 1) < 2 ^ k := Nat.lt_of_le_of_lt this.2 h
    have := (Nat.pow_lt_pow_iff_right (a := 2) (by decide)).1 h2
    omega
/-- What the search for a word's length keeps: so many bits are gone, what is left is short. -/
def LW (a W N s : Int) : Prop := 0 ≤ W ∧ 0 ≤ N ∧ N + 2 * s ≤ 64 ∧ W = a / ((2 ^ N.toNat : Nat) : Int) ∧ (N = 0 ∨ 1 ≤ W) ∧ W < (if s = 0 then 2 else ((2 ^ (2 * s).toNat : Nat) : Int)) ∧
  (s = 32 ∨ s = 16 ∨ s = 8 ∨ s = 4 ∨ s = 2 ∨ s = 1 ∨ s = 0)
theorem LW_start {a : Int} (h : Wd a) : LW a a 0 32 := by
  obtain ⟨h0, h1⟩ := h
  refine ⟨h0, by omega, by omega, by simp, by omega, by simpa using h1, by simp⟩
theorem LW_keep {a W N s : Int} (h : LW a W N s) (hs : s ≠ 0) (hz : W / ((2 ^ s.toNat : Nat) : Int) = 0) : LW a W N (s / 2) := by
  obtain ⟨h1, h2, h3, h4, h5, h6, h7⟩ := h
  refine ⟨h1, h2, by omega, h4, h5, ?_, by omega⟩
  rcases h7 with rfl | rfl | rfl | rfl | rfl | rfl | rfl <;> simp at hz h6 ⊢ <;> omega
theorem LW_move {a W N s : Int} (h : LW a W N s) (hs : s ≠ 0) (hz : W / ((2 ^ s.toNat : Nat) : Int) ≠ 0) : LW a (W / ((2 ^ s.toNat : Nat) : Int)) (N + s) (s / 2) := by
  obtain ⟨h1, h2, h3, h4, h5, h6, h7⟩ := h
  have hs0 : 0 ≤ s := by omega
  have hw : 0 ≤ W / ((2 ^ s.toNat : Nat) : Int) := Int.ediv_nonneg h1 (Int.natCast_nonneg _)
  refine ⟨hw, by omega, by omega, ?_, by omega, ?_, by omega⟩
  · rw [h4, Int.ediv_ediv_of_nonneg (Int.natCast_nonneg _), Int.toNat_add h2 hs0, Nat.pow_add]
    simp
  · rcases h7 with rfl | rfl | rfl | rfl | rfl | rfl | rfl <;> simp at hz h6 ⊢ <;> omega
theorem LW_end {a W N : Int} (ha : Wd a) (h : LW a W N 0) : N + W = ((blen a.toNat : Nat) : Int) := by
  obtain ⟨h1, h2, h3, h4, h5, h6, -⟩ := h
  obtain ⟨a0, a1⟩ := ha
  obtain ⟨A, rfl⟩ := Int.eq_ofNat_of_zero_le a0
  obtain ⟨n, rfl⟩ := Int.eq_ofNat_of_zero_le h2
  simp at h6
  have hp := Nat.two_pow_pos n
  rw [Int.toNat_natCast] at h4
  have e : W = ((A / 2 ^ n : Nat) : Int) := by rw [h4]; simp
  rw [e] at h5 h6 ⊢
  rw [Int.toNat_natCast]
  have hd := Nat.div_add_mod A (2 ^ n)
  have hm := Nat.mod_lt A hp
  rcases (show A / 2 ^ n = 0 ∨ A / 2 ^ n = 1 by omega) with k | k
  · rw [k] at hd ⊢
    obtain rfl : n = 0 := by omega
    have : A = 0 := by simp at k; omega
    subst this
    simp [blen]
  · rw [k] at hd ⊢
    have : blen A = n + 1 := blen_of (by rw [Nat.pow_succ]; omega) (Or.inr (by simp; omega))
    omega

/-! Sums of wide numbers, word by word. -/
theorem add_lo {a1 a0 b1 b0 : Int} (ha0 : Wd a0) (hb0 : Wd b0) : (a0 + b0) % 18446744073709551616 = wd (v2 a1 a0 + v2 b1 b0) 0 := by
  obtain ⟨_, _⟩ := ha0; obtain ⟨_, _⟩ := hb0
  rw [wd0]; unfold v2; omega
theorem add_hi {a1 a0 b1 b0 : Int} (ha1 : Wd a1) (ha0 : Wd a0) (hb1 : Wd b1) (hb0 : Wd b0) : (a1 + b1 + (a0 + b0) / 18446744073709551616) % 18446744073709551616 = wd (v2 a1 a0 + v2 b1 b0) 1 := by
  obtain ⟨_, _⟩ := ha0; obtain ⟨_, _⟩ := hb0; obtain ⟨_, _⟩ := ha1; obtain ⟨_, _⟩ := hb1
  rw [wd1]; unfold v2; omega
theorem add_over {a1 a0 b1 b0 : Int} (ha1 : Wd a1) (ha0 : Wd a0) (hb1 : Wd b1) (hb0 : Wd b0) : ((a1 + b1 + (a0 + b0) / 18446744073709551616) / 18446744073709551616 != 0) = decide (340282366920938463463374607431768211456 ≤ v2 a1 a0 + v2 b1 b0) := by
  obtain ⟨_, _⟩ := ha0; obtain ⟨_, _⟩ := hb0; obtain ⟨_, _⟩ := ha1; obtain ⟨_, _⟩ := hb1
  rw [Bool.eq_iff_iff]; simp only [bne_iff_ne, ne_eq, decide_eq_true_eq]; unfold v2; omega
theorem sub_lo {a1 a0 b1 b0 : Int} (ha0 : Wd a0) (hb1 : Wd b1) (hb0 : Wd b0) : (a0 - b0) % 18446744073709551616 = wd (v2 a1 a0 + (340282366920938463463374607431768211456 - v2 b1 b0)) 0 := by
  have := v2_lt hb1 hb0
  obtain ⟨_, _⟩ := ha0; obtain ⟨_, _⟩ := hb0
  rw [wd0]; unfold v2 at *; omega
theorem sub_hi {a1 a0 b1 b0 : Int} (ha1 : Wd a1) (ha0 : Wd a0) (hb1 : Wd b1) (hb0 : Wd b0) : (a1 - b1 + (a0 - b0) / 18446744073709551616) % 18446744073709551616 = wd (v2 a1 a0 + (340282366920938463463374607431768211456 - v2 b1 b0)) 1 := by
  have := v2_lt hb1 hb0
  obtain ⟨_, _⟩ := ha0; obtain ⟨_, _⟩ := hb0; obtain ⟨_, _⟩ := ha1; obtain ⟨_, _⟩ := hb1
  rw [wd1]; unfold v2 at *; omega
theorem sub_over {a1 a0 b1 b0 : Int} (ha1 : Wd a1) (ha0 : Wd a0) (hb1 : Wd b1) (hb0 : Wd b0) : (-((a1 - b1 + (a0 - b0) / 18446744073709551616) / 18446744073709551616) != 0) = decide (v2 a1 a0 < v2 b1 b0) := by
  obtain ⟨_, _⟩ := ha0; obtain ⟨_, _⟩ := hb0; obtain ⟨_, _⟩ := ha1; obtain ⟨_, _⟩ := hb1
  rw [Bool.eq_iff_iff]; simp only [bne_iff_ne, ne_eq, decide_eq_true_eq]; unfold v2; omega
/-! How long a number of four words is: by its highest word that is not nought. -/
theorem blen_up {h k n : Nat} (hh : h ≠ 0) (e1 : h * 2 ^ k ≤ n) (e2 : n < (h + 1) * 2 ^ k) : blen n = k + blen h := by
  have a := blen_lt h
  have b := blen_ge hh
  refine blen_of ?_ (Or.inr ?_)
  · rw [Nat.pow_add, Nat.mul_comm (2 ^ k)]
    exact Nat.lt_of_lt_of_le e2 (Nat.mul_le_mul_right _ a)
  · rw [show k + blen h - 1 = (blen h - 1) + k by omega, Nat.pow_add]
    exact Nat.le_trans (Nat.mul_le_mul_right _ b.2) e1
/-- Which is the lesser of two. -/
def icmp (a b : Int) : Int := if a < b then -1 else if b < a then 1 else 0
def orI (x y : Int) : Int := if x = 0 then y else x
theorem icmp_two {a1 a0 b1 b0 : Int} (ha1 : Wd a1) (ha0 : Wd a0) (hb1 : Wd b1) (hb0 : Wd b0) : orI (icmp a1 b1) (icmp a0 b0) = icmp ((v2 a1 a0 : Nat) : Int) ((v2 b1 b0 : Nat) : Int) := by
  obtain ⟨_, _⟩ := ha0; obtain ⟨_, _⟩ := hb0; obtain ⟨_, _⟩ := ha1; obtain ⟨_, _⟩ := hb1
  unfold orI icmp v2
  repeat' split
  all_goals omega
theorem icmp_four {a3 a2 a1 a0 b3 b2 b1 b0 : Int} (ha1 : Wd a1) (ha0 : Wd a0) (hb1 : Wd b1) (hb0 : Wd b0) :
    orI (icmp ((v2 a3 a2 : Nat) : Int) ((v2 b3 b2 : Nat) : Int)) (icmp ((v2 a1 a0 : Nat) : Int) ((v2 b1 b0 : Nat) : Int)) = icmp ((v4 a3 a2 a1 a0 : Nat) : Int) ((v4 b3 b2 b1 b0 : Nat) : Int) := by
  have h1 := v2_lt ha1 ha0; have h2 := v2_lt hb1 hb0
  unfold orI icmp v4
  repeat' split
  all_goals omega
theorem len3 {a3 a2 a1 a0 : Int} (h3 : Wd a3) (h2 : Wd a2) (h1 : Wd a1) (h0 : Wd a0) (c : a3 ≠ 0) : 192 + ((blen a3.toNat : Nat) : Int) = ((blen (v4 a3 a2 a1 a0) : Nat) : Int) := by
  obtain ⟨_, _⟩ := h3; obtain ⟨_, _⟩ := h2; obtain ⟨_, _⟩ := h1; obtain ⟨_, _⟩ := h0
  have := blen_up (n := v4 a3 a2 a1 a0) (k := 192) (h := a3.toNat) (by omega) (by unfold v4 v2; omega) (by unfold v4 v2; omega)
  omega
theorem len2 {a2 a1 a0 : Int} (h2 : Wd a2) (h1 : Wd a1) (h0 : Wd a0) (c : a2 ≠ 0) : 128 + ((blen a2.toNat : Nat) : Int) = ((blen (v4 0 a2 a1 a0) : Nat) : Int) := by
  obtain ⟨_, _⟩ := h2; obtain ⟨_, _⟩ := h1; obtain ⟨_, _⟩ := h0
  have := blen_up (n := v4 0 a2 a1 a0) (k := 128) (h := a2.toNat) (by omega) (by unfold v4 v2; omega) (by unfold v4 v2; omega)
  omega
theorem len1 {a1 a0 : Int} (h1 : Wd a1) (h0 : Wd a0) (c : a1 ≠ 0) : 64 + ((blen a1.toNat : Nat) : Int) = ((blen (v4 0 0 a1 a0) : Nat) : Int) := by
  obtain ⟨_, _⟩ := h1; obtain ⟨_, _⟩ := h0
  have := blen_up (n := v4 0 0 a1 a0) (k := 64) (h := a1.toNat) (by omega) (by unfold v4 v2; omega) (by unfold v4 v2; omega)
  omega
theorem len0 {a0 : Int} : ((blen a0.toNat : Nat) : Int) = ((blen (v4 0 0 0 a0) : Nat) : Int) := by
  unfold v4 v2; simp
theorem blen_word {a : Int} (h : Wd a) : ((blen a.toNat : Nat) : Int) ≤ 64 := by
  obtain ⟨_, _⟩ := h
  have := blen_le (n := a.toNat) (k := 64) (by omega)
  omega
end Go.Proofs.Ytmelipbanbihdaa
