/- A region that draws its order, by what holds between its operations: one step for each operation, not one for each order. No program here. -/
import Derived.WalkKit
import Derived.OpenShut
import Derived.Test.YtmmlekgojblopaaRows
import Derived.WalkSpells
import Derived.WalkLawsBesides
import Derived.Lib.Hide
import Derived.Deep.RegionWith
import Derived.Deep.QuietTactic
import Derived.BigQuiet
import Derived.StillTailTactics
import Derived.Deep.RegionHeld3
import Derived.Handy
namespace Go.Proofs.Ytmmlekgojblopaa

def Wd (x : Int) : Prop := 0 ≤ x ∧ x < 18446744073709551616
def Hf (x : Int) : Prop := 0 ≤ x ∧ x < 4294967296
def v2 (h l : Int) : Nat := h.toNat * 18446744073709551616 + l.toNat
def v4 (a b c d : Int) : Nat := v2 a b * 340282366920938463463374607431768211456 + v2 c d
def wd (n i : Nat) : Int := ((n / 2 ^ (64 * i) % 2 ^ 64 : Nat) : Int)
def hf (n i : Nat) : Int := ((n / 2 ^ (32 * i) % 2 ^ 32 : Nat) : Int)

theorem wrap_u64 (n : Int) : IntKind.u64.wrap n = n % 18446744073709551616 := by
  simp [IntKind.wrap, IntKind.bits, IntKind.signed]
theorem wd_wd (n i : Nat) : Wd (wd n i) := by
  unfold Wd wd
  have : n / 2 ^ (64 * i) % 2 ^ 64 < 2 ^ 64 := Nat.mod_lt _ (by decide)
  omega
theorem hf_hf (n i : Nat) : Hf (hf n i) := by
  unfold Hf hf
  have : n / 2 ^ (32 * i) % 2 ^ 32 < 2 ^ 32 := Nat.mod_lt _ (by decide)
  omega
theorem wd0 (n : Nat) : wd n 0 = ((n % 18446744073709551616 : Nat) : Int) := by simp [wd]
theorem wd1 (n : Nat) : wd n 1 = ((n / 18446744073709551616 % 18446744073709551616 : Nat) : Int) := by simp [wd]
theorem wd2 (n : Nat) : wd n 2 = ((n / 340282366920938463463374607431768211456 % 18446744073709551616 : Nat) : Int) := by simp [wd]
theorem wd3 (n : Nat) : wd n 3 = ((n / 6277101735386680763835789423207666416102355444464034512896 % 18446744073709551616 : Nat) : Int) := by simp [wd]
theorem v2_wd (n : Nat) : v2 (wd n 1) (wd n 0) = n % 340282366920938463463374607431768211456 := by
  rw [wd0, wd1]; unfold v2; omega
theorem v2_wd23 (n : Nat) : v2 (wd n 3) (wd n 2) = n / 340282366920938463463374607431768211456 % 340282366920938463463374607431768211456 := by
  rw [wd2, wd3]; unfold v2; omega
theorem v4_wd (n : Nat) : v4 (wd n 3) (wd n 2) (wd n 1) (wd n 0) = n % 115792089237316195423570985008687907853269984665640564039457584007913129639936 := by
  unfold v4; rw [v2_wd, v2_wd23]; omega
theorem v2_lt {h l : Int} (a : Wd h) (b : Wd l) : v2 h l < 340282366920938463463374607431768211456 := by
  obtain ⟨_, _⟩ := a; obtain ⟨_, _⟩ := b; unfold v2; omega
theorem wd_v2_0 {h l : Int} (_ : Wd h) (b : Wd l) : wd (v2 h l) 0 = l := by
  obtain ⟨_, _⟩ := b; rw [wd0]; unfold v2; omega
theorem wd_v2_1 {h l : Int} (a : Wd h) (b : Wd l) : wd (v2 h l) 1 = h := by
  obtain ⟨_, _⟩ := a; obtain ⟨_, _⟩ := b; rw [wd1]; unfold v2; omega
theorem v4_lt {x y z t : Int} (a : Wd x) (b : Wd y) (c : Wd z) (d : Wd t) : v4 x y z t < 115792089237316195423570985008687907853269984665640564039457584007913129639936 := by
  have h1 := v2_lt a b; have h2 := v2_lt c d; unfold v4; omega
theorem wd_v4_0 {x y z t : Int} (_ : Wd x) (_ : Wd y) (c : Wd z) (d : Wd t) : wd (v4 x y z t) 0 = t := by
  have h1 := wd_v2_0 c d; rw [wd0] at h1 ⊢; unfold v4; omega
theorem wd_v4_1 {x y z t : Int} (_ : Wd x) (_ : Wd y) (c : Wd z) (d : Wd t) : wd (v4 x y z t) 1 = z := by
  have h1 := wd_v2_1 c d; rw [wd1] at h1 ⊢; unfold v4; omega
theorem wd_v4_2 {x y z t : Int} (a : Wd x) (b : Wd y) (c : Wd z) (d : Wd t) : wd (v4 x y z t) 2 = y := by
  have h1 := wd_v2_0 a b; have h2 := v2_lt c d; rw [wd0] at h1; rw [wd2]; unfold v4; omega
theorem wd_v4_3 {x y z t : Int} (a : Wd x) (b : Wd y) (c : Wd z) (d : Wd t) : wd (v4 x y z t) 3 = x := by
  have h1 := wd_v2_1 a b; have h2 := v2_lt c d; have h3 := v2_lt a b; rw [wd1] at h1; rw [wd3]; unfold v4; omega

/-! Bits of a word. -/
theorem ofInt_wrap (r : BitVec 64) : BitVec.ofInt 64 (IntKind.u64.wrap r.toNat) = r := by
  rw [wrap_u64]
  apply BitVec.eq_of_toNat_eq
  have := r.isLt
  simp only [BitVec.toNat_ofInt]
  omega
theorem ofInt_and (x y : Int) : BitVec.ofInt 64 (bits .and .u64 x y) = BitVec.ofInt 64 x &&& BitVec.ofInt 64 y := ofInt_wrap _
theorem ofInt_or (x y : Int) : BitVec.ofInt 64 (bits .or .u64 x y) = BitVec.ofInt 64 x ||| BitVec.ofInt 64 y := ofInt_wrap _
theorem ofInt_xor (x y : Int) : BitVec.ofInt 64 (bits .xor .u64 x y) = BitVec.ofInt 64 x ^^^ BitVec.ofInt 64 y := ofInt_wrap _
theorem ofInt_andNot (x y : Int) : BitVec.ofInt 64 (bits .andNot .u64 x y) = BitVec.ofInt 64 x &&& ~~~ BitVec.ofInt 64 y := ofInt_wrap _
theorem bits_wd (op : BinOp) (x y : Int) : Wd (bits op .u64 x y) := by
  have := wf_bits op .u64 x y
  simp [Lit.wf, IntKind.min, IntKind.max, IntKind.signed, IntKind.bits] at this
  exact ⟨by omega, by omega⟩
theorem top_of {x : Int} (h : Wd x) : x / 9223372036854775808 = ((BitVec.ofInt 64 x).msb.toNat : Int) := by
  obtain ⟨h0, h1⟩ := h
  rw [BitVec.msb_eq_decide, BitVec.toNat_ofInt]
  by_cases k : 9223372036854775808 ≤ x
  · rw [decide_eq_true (by omega)]; simp; omega
  · rw [decide_eq_false (by omega)]; simp; omega
theorem msb_of {x : Int} (h : Wd x) : (BitVec.ofInt 64 x).msb = decide (9223372036854775808 ≤ x) := by
  obtain ⟨h0, h1⟩ := h
  rw [BitVec.msb_eq_decide, BitVec.toNat_ofInt]
  congr 1
  simp only [eq_iff_iff]
  omega

theorem carry_of {a b c : Int} (ha : Wd a) (hb : Wd b) (h0 : 0 ≤ c) (h1 : c ≤ 1) :
    bits .or .u64 (bits .and .u64 a b) (bits .andNot .u64 (bits .or .u64 a b) ((a + b + c) % 18446744073709551616)) / 9223372036854775808 = (a + b + c) / 18446744073709551616 := by
  have hs : Wd ((a + b + c) % 18446744073709551616) := ⟨by omega, by omega⟩
  rw [top_of (bits_wd _ _ _), ofInt_or, ofInt_and, ofInt_andNot, ofInt_or]
  simp only [BitVec.msb_or, BitVec.msb_and, BitVec.msb_not, msb_of ha, msb_of hb, msb_of hs]
  obtain ⟨_, _⟩ := ha; obtain ⟨_, _⟩ := hb
  by_cases k1 : 9223372036854775808 ≤ a <;> by_cases k2 : 9223372036854775808 ≤ b <;> by_cases k3 : 9223372036854775808 ≤ (a + b + c) % 18446744073709551616 <;> simp [k1, k2, k3] <;> omega

/-! How long a number is. -/
def blen (n : Nat) : Nat := if n = 0 then 0 else n.log2 + 1
theorem blen_of {n r : Nat} (h1 : n < 2 ^ r) (h2 : r = 0 ∨ 2 ^ (r - 1) ≤ n) : blen n = r := by
  unfold blen
  by_cases h : n = 0
  · subst h
    rcases h2 with h2 | h2
    · simp [h2]
    · have := Nat.two_pow_pos (r - 1); omega
  · rw [if_neg h]
    rcases h2 with h2 | h2
    · subst h2; simp at h1; omega
    · have hr : r ≠ 0 := fun hr => by subst hr; simp at h1; omega
      have e : r - 1 = n.log2 := by
        symm
        rw [Nat.log2_eq_iff h]
        exact ⟨h2, by rw [show r - 1 + 1 = r by omega]; exact h1⟩
      omega
theorem blen_lt (n : Nat) : n < 2 ^ blen n := by
  unfold blen
  by_cases h : n = 0
  · simp [h]
  · rw [if_neg h]; exact Nat.lt_log2_self
theorem blen_ge {n : Nat} (h : n ≠ 0) : blen n ≠ 0 ∧ 2 ^ (blen n - 1) ≤ n := by
  unfold blen
  rw [if_neg h]
  exact ⟨by omega, by simpa using Nat.log2_self_le h⟩
theorem blen_le {n k : Nat} (h : n < 2 ^ k) : blen n ≤ k := by
  by_cases h0 : n = 0
  · simp [blen, h0]
  · have := blen_ge h0
    have h2 : 2 ^ (blen n - 1) < 2 ^ k := Nat.lt_of_le_of_lt this.2 h
    have := (Nat.pow_lt_pow_iff_right (a := 2) (by decide)).1 h2
    omega
/-- What the search for a word's length keeps: so many bits are gone, what is left is short. -/
def LW (a W N s : Int) : Prop := 0 ≤ W ∧ 0 ≤ N ∧ N + 2 * s ≤ 64 ∧ W = a / ((2 ^ N.toNat : Nat) : Int) ∧ (N = 0 ∨ 1 ≤ W) ∧ W < (if s = 0 then 2 else ((2 ^ (2 * s).toNat : Nat) : Int)) ∧
  (s = 32 ∨ s = 16 ∨ s = 8 ∨ s = 4 ∨ s = 2 ∨ s = 1 ∨ s = 0)
theorem LW_start {a : Int} (h : Wd a) : LW a a 0 32 := by
  obtain ⟨h0, h1⟩ := h
  refine ⟨h0, by omega, by omega, by simp, by omega, by simpa using h1, by simp⟩
theorem LW_keep {a W N s : Int} (h : LW a W N s) (hs : s ≠ 0) (hz : W / ((2 ^ s.toNat : Nat) : Int) = 0) : LW a W N (s / 2) := by
  obtain ⟨h1, h2, h3, h4, h5, h6, h7⟩ := h
  refine ⟨h1, h2, by omega, h4, h5, ?_, by omega⟩
  rcases h7 with rfl | rfl | rfl | rfl | rfl | rfl | rfl <;> simp at hz h6 ⊢ <;> omega
theorem LW_move {a W N s : Int} (h : LW a W N s) (hs : s ≠ 0) (hz : W / ((2 ^ s.toNat : Nat) : Int) ≠ 0) : LW a (W / ((2 ^ s.toNat : Nat) : Int)) (N + s) (s / 2) := by
  obtain ⟨h1, h2, h3, h4, h5, h6, h7⟩ := h
  have hs0 : 0 ≤ s := by omega
  have hw : 0 ≤ W / ((2 ^ s.toNat : Nat) : Int) := Int.ediv_nonneg h1 (Int.natCast_nonneg _)
  refine ⟨hw, by omega, by omega, ?_, by omega, ?_, by omega⟩
  · rw [h4, Int.ediv_ediv_of_nonneg (Int.natCast_nonneg _), Int.toNat_add h2 hs0, Nat.pow_add]
    simp
  · rcases h7 with rfl | rfl | rfl | rfl | rfl | rfl | rfl <;> simp at hz h6 ⊢ <;> omega
theorem LW_end {a W N : Int} (ha : Wd a) (h : LW a W N 0) : N + W = ((blen a.toNat : Nat) : Int) := by
  obtain ⟨h1, h2, h3, h4, h5, h6, -⟩ := h
  obtain ⟨a0, a1⟩ := ha
  obtain ⟨A, rfl⟩ := Int.eq_ofNat_of_zero_le a0
  obtain ⟨n, rfl⟩ := Int.eq_ofNat_of_zero_le h2
  simp at h6
  have hp := Nat.two_pow_pos n
  rw [Int.toNat_natCast] at h4
  have e : W = ((A / 2 ^ n : Nat) : Int) := by rw [h4]; simp
  rw [e] at h5 h6 ⊢
  rw [Int.toNat_natCast]
  have hd := Nat.div_add_mod A (2 ^ n)
  have hm := Nat.mod_lt A hp
  rcases (show A / 2 ^ n = 0 ∨ A / 2 ^ n = 1 by omega) with k | k
  · rw [k] at hd ⊢
    obtain rfl : n = 0 := by omega
    have : A = 0 := by simp at k; omega
    subst this
    simp [blen]
  · rw [k] at hd ⊢
    have : blen A = n + 1 := blen_of (by rw [Nat.pow_succ]; omega) (Or.inr (by simp; omega))
    omega

/-! Sums of wide numbers, word by word. -/
theorem add_lo {a1 a0 b1 b0 : Int} (ha0 : Wd a0) (hb0 : Wd b0) : (a0 + b0) % 18446744073709551616 = wd (v2 a1 a0 + v2 b1 b0) 0 := by
  obtain ⟨_, _⟩ := ha0; obtain ⟨_, _⟩ := hb0
  rw [wd0]; unfold v2; omega
theorem add_hi {a1 a0 b1 b0 : Int} (ha1 : Wd a1) (ha0 : Wd a0) (hb1 : Wd b1) (hb0 : Wd b0) : (a1 + b1 + (a0 + b0) / 18446744073709551616) % 18446744073709551616 = wd (v2 a1 a0 + v2 b1 b0) 1 := by
  obtain ⟨_, _⟩ := ha0; obtain ⟨_, _⟩ := hb0; obtain ⟨_, _⟩ := ha1; obtain ⟨_, _⟩ := hb1
  rw [wd1]; unfold v2; omega
theorem add_over {a1 a0 b1 b0 : Int} (ha1 : Wd a1) (ha0 : Wd a0) (hb1 : Wd b1) (hb0 : Wd b0) : ((a1 + b1 + (a0 + b0) / 18446744073709551616) / 18446744073709551616 != 0) = decide (340282366920938463463374607431768211456 ≤ v2 a1 a0 + v2 b1 b0) := by
  obtain ⟨_, _⟩ := ha0; obtain ⟨_, _⟩ := hb0; obtain ⟨_, _⟩ := ha1; obtain ⟨_, _⟩ := hb1
  rw [Bool.eq_iff_iff]; simp only [bne_iff_ne, ne_eq, decide_eq_true_eq]; unfold v2; omega
theorem sub_lo {a1 a0 b1 b0 : Int} (ha0 : Wd a0) (hb1 : Wd b1) (hb0 : Wd b0) : (a0 - b0) % 18446744073709551616 = wd (v2 a1 a0 + (340282366920938463463374607431768211456 - v2 b1 b0)) 0 := by
  have := v2_lt hb1 hb0
  obtain ⟨_, _⟩ := ha0; obtain ⟨_, _⟩ := hb0
  rw [wd0]; unfold v2 at *; omega
theorem sub_hi {a1 a0 b1 b0 : Int} (ha1 : Wd a1) (ha0 : Wd a0) (hb1 : Wd b1) (hb0 : Wd b0) : (a1 - b1 + (a0 - b0) / 18446744073709551616) % 18446744073709551616 = wd (v2 a1 a0 + (340282366920938463463374607431768211456 - v2 b1 b0)) 1 := by
  have := v2_lt hb1 hb0
  obtain ⟨_, _⟩ := ha0; obtain ⟨_, _⟩ := hb0; obtain ⟨_, _⟩ := ha1; obtain ⟨_, _⟩ := hb1
  rw [wd1]; unfold v2 at *; omega
theorem sub_over {a1 a0 b1 b0 : Int} (ha1 : Wd a1) (ha0 : Wd a0) (hb1 : Wd b1) (hb0 : Wd b0) : (-((a1 - b1 + (a0 - b0) / 18446744073709551616) / 18446744073709551616) != 0) = decide (v2 a1 a0 < v2 b1 b0) := by
  obtain ⟨_, _⟩ := ha0; obtain ⟨_, _⟩ := hb0; obtain ⟨_, _⟩ := ha1; obtain ⟨_, _⟩ := hb1
  rw [Bool.eq_iff_iff]; simp only [bne_iff_ne, ne_eq, decide_eq_true_eq]; unfold v2; omega
/-! How long a number of four words is: by its highest word that is not nought. -/
theorem blen_up {h k n : Nat} (hh : h ≠ 0) (e1 : h * 2 ^ k ≤ n) (e2 : n < (h + 1) * 2 ^ k) : blen n = k + blen h := by
  have a := blen_lt h
  have b := blen_ge hh
  refine blen_of ?_ (Or.inr ?_)
  · rw [Nat.pow_add, Nat.mul_comm (2 ^ k)]
    exact Nat.lt_of_lt_of_le e2 (Nat.mul_le_mul_right _ a)
  · rw [show k + blen h - 1 = (blen h - 1) + k by omega, Nat.pow_add]
    exact Nat.le_trans (Nat.mul_le_mul_right _ b.2) e1
/-- Which is the lesser of two. -/
def icmp (a b : Int) : Int := if a < b then -1 else if b < a then 1 else 0
def orI (x y : Int) : Int := if x = 0 then y else x
theorem icmp_two {a1 a0 b1 b0 : Int} (ha1 : Wd a1) (ha0 : Wd a0) (hb1 : Wd b1) (hb0 : Wd b0) : orI (icmp a1 b1) (icmp a0 b0) = icmp ((v2 a1 a0 : Nat) : Int) ((v2 b1 b0 : Nat) : Int) := by
  obtain ⟨_, _⟩ := ha0; obtain ⟨_, _⟩ := hb0; obtain ⟨_, _⟩ := ha1; obtain ⟨_, _⟩ := hb1
  unfold orI icmp v2
  repeat' split
  all_goals omega
theorem icmp_four {a3 a2 a1 a0 b3 b2 b1 b0 : Int} (ha1 : Wd a1) (ha0 : Wd a0) (hb1 : Wd b1) (hb0 : Wd b0) :
    orI (icmp ((v2 a3 a2 : Nat) : Int) ((v2 b3 b2 : Nat) : Int)) (icmp ((v2 a1 a0 : Nat) : Int) ((v2 b1 b0 : Nat) : Int)) = icmp ((v4 a3 a2 a1 a0 : Nat) : Int) ((v4 b3 b2 b1 b0 : Nat) : Int) := by
  have h1 := v2_lt ha1 ha0; have h2 := v2_lt hb1 hb0
  unfold orI icmp v4
  repeat' split
  all_goals omega
theorem len3 {a3 a2 a1 a0 : Int} (h3 : Wd a3) (h2 : Wd a2) (h1 : Wd a1) (h0 : Wd a0) (c : a3 ≠ 0) : 192 + ((blen a3.toNat : Nat) : Int) = ((blen (v4 a3 a2 a1 a0) : Nat) : Int) := by
  obtain ⟨_, _⟩ := h3; obtain ⟨_, _⟩ := h2; obtain ⟨_, _⟩ := h1; obtain ⟨_, _⟩ := h0
  have := blen_up (n := v4 a3 a2 a1 a0) (k := 192) (h := a3.toNat) (by omega) (by unfold v4 v2; omega) (by unfold v4 v2; omega)
  omega
theorem len2 {a2 a1 a0 : Int} (h2 : Wd a2) (h1 : Wd a1) (h0 : Wd a0) (c : a2 ≠ 0) : 128 + ((blen a2.toNat : Nat) : Int) = ((blen (v4 0 a2 a1 a0) : Nat) : Int) := by
  obtain ⟨_, _⟩ := h2; obtain ⟨_, _⟩ := h1; obtain ⟨_, _⟩ := h0
  have := blen_up (n := v4 0 a2 a1 a0) (k := 128) (h := a2.toNat) (by omega) (by unfold v4 v2; omega) (by unfold v4 v2; omega)
  omega
theorem len1 {a1 a0 : Int} (h1 : Wd a1) (h0 : Wd a0) (c : a1 ≠ 0) : 64 + ((blen a1.toNat : Nat) : Int) = ((blen (v4 0 0 a1 a0) : Nat) : Int) := by
  obtain ⟨_, _⟩ := h1; obtain ⟨_, _⟩ := h0
  have := blen_up (n := v4 0 0 a1 a0) (k := 64) (h := a1.toNat) (by omega) (by unfold v4 v2; omega) (by unfold v4 v2; omega)
  omega
theorem len0 {a0 : Int} : ((blen a0.toNat : Nat) : Int) = ((blen (v4 0 0 0 a0) : Nat) : Int) := by
  unfold v4 v2; simp
theorem blen_word {a : Int} (h : Wd a) : ((blen a.toNat : Nat) : Int) ≤ 64 := by
  obtain ⟨_, _⟩ := h
  have := blen_le (n := a.toNat) (k := 64) (by omega)
  omega
end Go.Proofs.Ytmmlekgojblopaa
namespace Go.Proofs.Ytmmlekgojblopaa
open Go.RowKit

theorem ret_int {k : IntKind} {a b : Int} (h : a = b) : Ending.returned (.int k a) = .returned (.int k b) := by rw [h]
theorem ret_two {k : IntKind} {a b a' b' : Int} (h : a = a') (g : b = b') : Ending.returned (.tuple #[.int k a, .int k b]) = .returned (.tuple #[.int k a', .int k b']) := by rw [h, g]
theorem ret_bool {a b : Bool} (h : a = b) : Ending.returned (.bool a) = .returned (.bool b) := by rw [h]
theorem bcell {W w1 : World} (hb : Below W.heap.size W w1) : (∀ b o, b < W.heap.size → w1.cell? ⟨b, o, none⟩ = W.cell? ⟨b, o, none⟩) ∧ (∀ b o, b < W.heap.size → w1.frozen? ⟨b, o, none⟩ = W.frozen? ⟨b, o, none⟩) :=
  ⟨fun b o h => hb.cell (p := ⟨b, o, none⟩) h, fun b o h => hb.frozen (p := ⟨b, o, none⟩) h⟩

theorem bl_al {a w : World} (h : Below a.heap.size a w) (o : Obj) : Below a.heap.size a (w.alloc o) := Below.alloc h h.size o
theorem bl_size {a w : World} (h : Below a.heap.size a w) : a.heap.size ≤ w.heap.size := h.size
theorem bl_trans {a w w' : World} (h : Below a.heap.size a w) (g : Below w.heap.size w w') : Below a.heap.size a w' := h.trans (g.mono h.size)

theorem addWord_any (a b c : Int) (ha : Wd a) (hb : Wd b) (h0 : 0 ≤ c) (h1 : c ≤ 1) (w : World) :
    Calls Try.prog 81 #[.int .u64 a, .int .u64 b, .int .u64 c] w fun e w' => e = .returned (.tuple #[.int .u64 ((a + b + c) % 18446744073709551616), .int .u64 ((a + b + c) / 18446744073709551616)]) ∧ w = w' := by
  have e1 := carry_of ha hb h0 h1
  have e2 : IntKind.u64.wrap (IntKind.u64.wrap (a + b) + c) = (a + b + c) % 18446744073709551616 := by rw [wrap_u64, wrap_u64]; omega
  have E1 := Lib.hid e1
  have E2 := Lib.hid e2
  clear e1 e2
  go_enter Try.func81, Try.ntmps81
  go_wp2
  go_ret2
  refine ⟨ret_two E2.out (Eq.trans ?_ E1.out), rfl⟩
  rw [E2.out]
theorem borrow_of {a b c : Int} (ha : Wd a) (hb : Wd b) (h0 : 0 ≤ c) (h1 : c ≤ 1) :
    bits .or .u64 (bits .and .u64 (bits .xor .u64 IntKind.u64.max a) b) (bits .and .u64 (bits .xor .u64 IntKind.u64.max (bits .xor .u64 a b)) ((a - b - c) % 18446744073709551616)) / 9223372036854775808 = -((a - b - c) / 18446744073709551616) := by
  have hs : Wd ((a - b - c) % 18446744073709551616) := ⟨by omega, by omega⟩
  have hm : Wd IntKind.u64.max := ⟨by decide, by decide⟩
  have hk : (9223372036854775808 : Int) ≤ IntKind.u64.max := by decide
  rw [top_of (bits_wd _ _ _), ofInt_or, ofInt_and, ofInt_and, ofInt_xor, ofInt_xor, ofInt_xor]
  simp only [BitVec.msb_or, BitVec.msb_and, BitVec.msb_xor, msb_of ha, msb_of hb, msb_of hs, msb_of hm, hk, decide_true]
  obtain ⟨_, _⟩ := ha; obtain ⟨_, _⟩ := hb
  by_cases k1 : 9223372036854775808 ≤ a <;> by_cases k2 : 9223372036854775808 ≤ b <;> by_cases k3 : 9223372036854775808 ≤ (a - b - c) % 18446744073709551616 <;> simp [k1, k2, k3] <;> omega
theorem subWord_any (a b c : Int) (ha : Wd a) (hb : Wd b) (h0 : 0 ≤ c) (h1 : c ≤ 1) (w : World) :
    Calls Try.prog 92 #[.int .u64 a, .int .u64 b, .int .u64 c] w fun e w' => e = .returned (.tuple #[.int .u64 ((a - b - c) % 18446744073709551616), .int .u64 (-((a - b - c) / 18446744073709551616))]) ∧ w = w' := by
  have e1 := borrow_of ha hb h0 h1
  have e2 : IntKind.u64.wrap (IntKind.u64.wrap (a - b) - c) = (a - b - c) % 18446744073709551616 := by rw [wrap_u64, wrap_u64]; omega
  have E1 := Lib.hid e1
  have E2 := Lib.hid e2
  clear e1 e2
  have hs : ¬ IntKind.u64.signed = true := by decide
  go_enter Try.func92, Try.ntmps92
  go_wp2
  go_ret2
  refine ⟨ret_two E2.out (Eq.trans ?_ E1.out), rfl⟩
  rw [E2.out]
theorem split_any (a : Int) (ha : Wd a) (w : World) :
    Calls Try.prog 80 #[.int .u64 a] w fun e w' => e = .returned (.tuple #[.int .u32 (a % 4294967296), .int .u32 (a / 4294967296)]) ∧ w = w' := by
  obtain ⟨h0, h1⟩ := ha
  go_enter Try.func80, Try.ntmps80
  go_wp2
  go_ret2
  exact ⟨ret_two rfl rfl, rfl⟩
theorem join_any (lo hi : Int) (h0 : Hf lo) (h1 : Hf hi) (w : World) :
    Calls Try.prog 90 #[.int .u32 lo, .int .u32 hi] w fun e w' => e = .returned (.int .u64 (hi * 4294967296 + lo)) ∧ w = w' := by
  obtain ⟨a0, a1⟩ := h0; obtain ⟨b0, b1⟩ := h1
  have E : Hid (bits .or .u64 (hi * 4294967296) lo = hi * 4294967296 + lo) :=
    bits_join .u64 64 (by decide) (fun n h0 h1 => IntWalk.u64_in n (by omega)) 32 _ _ (by omega) (by omega) (by omega) (by omega) (by omega) (by omega)
  go_enter Try.func90, Try.ntmps90
  go_wp2
  go_ret
  exact ⟨ret_int E.out, rfl⟩
theorem u32_and1 (x : Int) (h₀ : 0 ≤ x) (h₁ : x < 4294967296) : bits .and .u32 x 1 = x % 2 := bits_mask .u32 32 (by decide) (fun n h0 h1 => IntWalk.u32_in n (by omega)) 1 (by decide) x h₀ h₁
theorem subHalf_any (a b c : Int) (ha : Hf a) (hb : Hf b) (h0 : 0 ≤ c) (h1 : c ≤ 1) (w : World) :
    Calls Try.prog 93 #[.int .u32 a, .int .u32 b, .int .u32 c] w fun e w' => e = .returned (.tuple #[.int .u32 ((a - b - c) % 4294967296), .int .u32 (-((a - b - c) / 4294967296))]) ∧ w = w' := by
  obtain ⟨a0, a1⟩ := ha; obtain ⟨b0, b1⟩ := hb
  have E1 : Hid (IntKind.u64.wrap (IntKind.u64.wrap (a - b) - c) % 4294967296 = (a - b - c) % 4294967296) := by
    show _ = _; rw [wrap_u64, wrap_u64]; omega
  have E2 : Hid (bits .and .u32 (IntKind.u64.wrap (IntKind.u64.wrap (a - b) - c) / 4294967296) 1 = -((a - b - c) / 4294967296)) := by
    show _ = _; rw [wrap_u64, wrap_u64, u32_and1 _ (by omega) (by omega)]; omega
  go_enter Try.func93, Try.ntmps93
  go_wp2_with (go_at_call 80; refine (split_any _ (by rw [wrap_u64]; exact ⟨by omega, by omega⟩) _).mono ?_; rintro e w' ⟨rfl, rfl⟩)
  go_ret2
  exact ⟨ret_two E1.out E2.out, rfl⟩
theorem halves_any (a b : Int) (ha : Wd a) (hb : Wd b) (w : World) :
    Calls Try.prog 67 #[.agg #[.int .u64 a, .int .u64 b]] w fun e w' => e = .returned (.agg #[.int .u32 (b % 4294967296), .int .u32 (b / 4294967296), .int .u32 (a % 4294967296), .int .u32 (a / 4294967296)]) ∧ Below w.heap.size w w' := by
  go_enter Try.func67, Try.ntmps67
  go_wp2_with (go_at_call 80; refine (split_any _ (by assumption) _).mono ?_; rintro e w' ⟨rfl, rfl⟩)
  simp [bodyPost, results, Try.results67, go_sem]
  exact bl_al (bl_al (Below.refl _ _) _) _
theorem twoOf_any (a b c d : Int) (ha : Hf a) (hb : Hf b) (hc : Hf c) (hd : Hf d) (w : World) :
    Calls Try.prog 70 #[.agg #[.int .u32 a, .int .u32 b, .int .u32 c, .int .u32 d]] w fun e w' => e = .returned (.agg #[.int .u64 (d * 4294967296 + c), .int .u64 (b * 4294967296 + a)]) ∧ Below w.heap.size w w' := by
  go_enter Try.func70, Try.ntmps70
  go_wp2
  go_region_held3 (fun w' => w'.cell? ⟨w.heap.size, 0, none⟩ = some (.int .u32 a) ∧ w'.cell? ⟨w.heap.size, 1, none⟩ = some (.int .u32 b) ∧ w'.cell? ⟨w.heap.size, 2, none⟩ = some (.int .u32 c) ∧ w'.cell? ⟨w.heap.size, 3, none⟩ = some (.int .u32 d)) (simp [go_sem, World.cell?_alloc_past])
    (first
      | (go_at_call 90; refine (join_any _ _ (by assumption) (by assumption) _).mono ?_; rintro e w' ⟨rfl, rfl⟩))
  rename_i hHeld
  clear hHeld
  go_wp2
  simp [bodyPost, results, Try.results70, go_sem]
  exact (bl_al (bl_al (Below.refl _ _) _) _).drew
theorem words_any (a b c d : Int) (w : World) :
    Calls Try.prog 72 #[.agg #[.int .u64 a, .int .u64 b, .int .u64 c, .int .u64 d]] w fun e w' => e = .returned (.agg #[.int .u64 d, .int .u64 c, .int .u64 b, .int .u64 a]) ∧ Below w.heap.size w w' := by
  go_enter Try.func72, Try.ntmps72
  go_wp2
  simp [bodyPost, results, Try.results72, go_sem]
  exact bl_al (bl_al (Below.refl _ _) _) _
theorem fourOfWords_any (a b c d : Int) (w : World) :
    Calls Try.prog 73 #[.agg #[.int .u64 d, .int .u64 c, .int .u64 b, .int .u64 a]] w fun e w' => e = .returned (.agg #[.int .u64 a, .int .u64 b, .int .u64 c, .int .u64 d]) ∧ Below w.heap.size w w' := by
  go_enter Try.func73, Try.ntmps73
  go_wp2
  simp [bodyPost, results, Try.results73, go_sem]
  exact bl_al (bl_al (Below.refl _ _) _) _
set_option maxHeartbeats 400000 in
theorem fourOf_any (a b c d a' b' c' d' : Int) (ha : Hf a) (hb : Hf b) (hc : Hf c) (hd : Hf d) (ha' : Hf a') (hb' : Hf b') (hc' : Hf c') (hd' : Hf d') (w : World) :
    Calls Try.prog 71 #[.agg #[.int .u32 a, .int .u32 b, .int .u32 c, .int .u32 d, .int .u32 a', .int .u32 b', .int .u32 c', .int .u32 d']] w fun e w' => e = .returned (.agg #[.int .u64 (d' * 4294967296 + c'), .int .u64 (b' * 4294967296 + a'), .int .u64 (d * 4294967296 + c), .int .u64 (b * 4294967296 + a)]) ∧ Below w.heap.size w w' := by
  go_enter Try.func71, Try.ntmps71
  go_wp2
  go_region_held3 (fun w' => w'.cell? ⟨w.heap.size, 0, none⟩ = some (.int .u32 a) ∧ w'.cell? ⟨w.heap.size, 1, none⟩ = some (.int .u32 b) ∧ w'.cell? ⟨w.heap.size, 2, none⟩ = some (.int .u32 c) ∧ w'.cell? ⟨w.heap.size, 3, none⟩ = some (.int .u32 d) ∧ w'.cell? ⟨w.heap.size, 4, none⟩ = some (.int .u32 a') ∧ w'.cell? ⟨w.heap.size, 5, none⟩ = some (.int .u32 b') ∧ w'.cell? ⟨w.heap.size, 6, none⟩ = some (.int .u32 c') ∧ w'.cell? ⟨w.heap.size, 7, none⟩ = some (.int .u32 d')) (simp [*, go_sem, World.cell?_alloc_past])
    (first
      | (go_at_call 70; refine (twoOf_any _ _ _ _ (by assumption) (by assumption) (by assumption) (by assumption) _).mono ?_; rintro e w' ⟨rfl, hb⟩; obtain ⟨hcl, hfr⟩ := bcell hb; have hz2 : w.heap.size + 1 < w'.heap.size := (by have hz := hb.size; first | (simp at hz; omega) | omega); have hz1 : w.heap.size < w'.heap.size := (by omega); have HB : Hid (Below w.heap.size w w') := (bl_trans (by repeat (first | exact Below.refl _ _ | exact Hid.out (by assumption) | with_reducible refine bl_al ?_ _ | with_reducible apply Below.drew)) hb); clear hb))
  rename_i hHeld
  clear hHeld
  go_wp2
  simp [bodyPost, results, Try.results71, go_sem, *]
  refine Below.setCell (Below.setCell (Below.setCell (Below.setCell HB.out ?_ _) ?_ _) ?_ _) ?_ _ <;> simp
set_option maxHeartbeats 400000 in
theorem lenWord_any (a : Int) (ha : Wd a) (w : World) :
    Calls Try.prog 86 #[.int .u64 a] w fun e w' => e = .returned (.int .i64 ((blen a.toNat : Nat) : Int)) ∧ w = w' := by
  have hst := LW_start ha
  go_enter Try.func86, Try.ntmps86
  go_wp2
  go_loop [0, 3, 4] (fun x n s => ∃ W N S : Int, x = .int .u64 W ∧ n = .int .i64 N ∧ s = .int .i64 S ∧ LW a W N S) (fun _ _ s => (intOf s).toNat)
  case atStart => exact ⟨a, 0, 32, rfl, rfl, rfl, hst⟩
  case round =>
    obtain ⟨W, N, S, rfl, rfl, rfl, hlw⟩ := hrel
    have h0 := hlw.1
    have h1 := hlw.2.1
    have h2 := hlw.2.2.1
    have h7 := hlw.2.2.2.2.2.2
    clear hst
    rcases h7 with rfl | rfl | rfl | rfl | rfl | rfl | rfl
    · by_cases hz : W / 4294967296 = 0
      · go_wp2
        exact ⟨⟨W, N, 16, rfl, rfl, rfl, LW_keep hlw (by decide) hz⟩, by decide⟩
      · go_wp2
        exact ⟨⟨W / 4294967296, N + 32, 16, rfl, rfl, rfl, LW_move hlw (by decide) hz⟩, by decide⟩
    · by_cases hz : W / 65536 = 0
      · go_wp2
        exact ⟨⟨W, N, 8, rfl, rfl, rfl, LW_keep hlw (by decide) hz⟩, by decide⟩
      · go_wp2
        exact ⟨⟨W / 65536, N + 16, 8, rfl, rfl, rfl, LW_move hlw (by decide) hz⟩, by decide⟩
    · by_cases hz : W / 256 = 0
      · go_wp2
        exact ⟨⟨W, N, 4, rfl, rfl, rfl, LW_keep hlw (by decide) hz⟩, by decide⟩
      · go_wp2
        exact ⟨⟨W / 256, N + 8, 4, rfl, rfl, rfl, LW_move hlw (by decide) hz⟩, by decide⟩
    · by_cases hz : W / 16 = 0
      · go_wp2
        exact ⟨⟨W, N, 2, rfl, rfl, rfl, LW_keep hlw (by decide) hz⟩, by decide⟩
      · go_wp2
        exact ⟨⟨W / 16, N + 4, 2, rfl, rfl, rfl, LW_move hlw (by decide) hz⟩, by decide⟩
    · by_cases hz : W / 4 = 0
      · go_wp2
        exact ⟨⟨W, N, 1, rfl, rfl, rfl, LW_keep hlw (by decide) hz⟩, by decide⟩
      · go_wp2
        exact ⟨⟨W / 4, N + 2, 1, rfl, rfl, rfl, LW_move hlw (by decide) hz⟩, by decide⟩
    · by_cases hz : W / 2 = 0
      · go_wp2
        exact ⟨⟨W, N, 0, rfl, rfl, rfl, LW_keep hlw (by decide) hz⟩, by decide⟩
      · go_wp2
        exact ⟨⟨W / 2, N + 1, 0, rfl, rfl, rfl, LW_move hlw (by decide) hz⟩, by decide⟩
    · have h3 : W < 2 := hlw.2.2.2.2.2.1
      have he := Lib.hid (LW_end ha hlw)
      go_wp2
      go_ret
      exact ⟨ret_int he.out, rfl⟩
/-- A block that stood ahead of a call stands behind it. -/
theorem sz {B : Nat} {W w1 : World} (hb : Below W.heap.size W w1) (h : W.heap.size ≤ w1.heap.size → B < w1.heap.size := by intro hz; first | omega | ((try simp at hz); omega)) : B < w1.heap.size := h hb.size
theorem sz1 {b : Nat} {W w1 : World} (hb : Below W.heap.size W w1) (h : W.heap.size ≤ w1.heap.size → b ≤ w1.heap.size := by intro hz; first | omega | ((try simp at hz); omega)) : b ≤ w1.heap.size := h hb.size
theorem sz2 {B : Nat} {W w1 : World} (hb : Below W.heap.size W w1) (h : W.heap.size ≤ w1.heap.size → B < w1.heap.size := by intro hz; first | omega | ((try simp at hz); omega)) : B < w1.heap.size ∧ B < w1.heap.size + 1 := ⟨h hb.size, Nat.lt_succ_of_lt (h hb.size)⟩
theorem sz3 {B : Nat} {W w1 : World} (hb : Below W.heap.size W w1) (h : W.heap.size ≤ w1.heap.size → B < w1.heap.size := by intro hz; first | omega | ((try simp at hz); omega)) : B < w1.heap.size ∧ B < w1.heap.size + 1 ∧ B < w1.heap.size + 1 + 1 := ⟨h hb.size, Nat.lt_succ_of_lt (h hb.size), Nat.lt_succ_of_lt (Nat.lt_succ_of_lt (h hb.size))⟩
/-- What was below is below: by the steps that a walk knows. -/
theorem bb {a : Nat} {u v : World} (h : Below a u v := by repeat (first | with_reducible exact Below.refl _ _ | with_reducible exact Hid.out (by assumption) | with_reducible refine Below.setCell ?_ (by first | (simp; done) | omega | (simp <;> omega)) _ | with_reducible refine bl_al ?_ _ | with_reducible apply Below.drew)) : Below a u v := h
theorem btt {a w w' : World} (g : Below w.heap.size w w') (h : Below a.heap.size a w := by repeat (first | with_reducible exact Below.refl _ _ | with_reducible exact Hid.out (by assumption) | with_reducible refine Below.setCell ?_ (by first | (simp; done) | omega | (simp <;> omega)) _ | with_reducible refine bl_al ?_ _ | with_reducible apply Below.drew)) : Below a.heap.size a w' := bl_trans h g
/-- What a function comes to, wherever it is called; nothing that stood is touched. -/
@[reducible] def Ct (f : FuncId) (args : Array Value) (v : Value) : Prop := ∀ W, Calls Try.prog f args W fun e w' => e = .returned v ∧ Below W.heap.size W w'
/-- A world under a new name: what is known of it. -/
theorem cel {R W : World} {B j : Nat} {v : Value} (h : R = W) (k : W.cell? ⟨B, j, none⟩ = some v := by first | assumption | (simp [go_sem, *]; done)) : R.cell? ⟨B, j, none⟩ = some v := h ▸ k
theorem sr {B : Nat} {R W : World} (h : R = W) (k : B < W.heap.size := by first | omega | (simp <;> omega)) : B < R.heap.size := h ▸ k
theorem sr3 {B : Nat} {R W : World} (h : R = W) (k : B < W.heap.size := by first | omega | (simp <;> omega)) : B < R.heap.size ∧ B < R.heap.size + 1 ∧ B < R.heap.size + 1 + 1 := by
  subst h; exact ⟨k, Nat.lt_succ_of_lt k, Nat.lt_succ_of_lt (Nat.lt_succ_of_lt k)⟩
theorem kr {p : Prop} (h : p := by kernel_rfl) : p := h
theorem ge {α : Type} {a : Array α} {i : Nat} {o : Option α} (h : a[i]? = o := by first | (simp only [List.getElem?_toArray, List.getElem?_cons_zero]; rfl) | (simp only [List.getElem?_toArray, List.getElem?_cons_succ, List.getElem?_cons_zero]; rfl)) : a[i]? = o := h
theorem szx {b : Nat} {W w1 : World} (hb : Below W.heap.size W w1) (h : W.heap.size ≤ w1.heap.size → b ≤ w1.heap.size := by intro hz; first | omega | ((try simp at hz); omega)) : b ≤ w1.heap.size ∧ b < w1.heap.size + 1 := ⟨h hb.size, Nat.lt_succ_of_le (h hb.size)⟩
theorem hbw {a w w' : World} (g : Below w.heap.size w w') (h : Below a.heap.size a w := by repeat (first | with_reducible exact Below.refl _ _ | with_reducible exact Hid.out (by assumption) | with_reducible refine Below.setCell ?_ (by first | (simp; done) | omega | (simp <;> omega)) _ | with_reducible refine bl_al ?_ _ | with_reducible apply Below.drew)) : Hid (Below a.heap.size a w') := bl_trans h g
theorem bhr {a R W : World} (e : R = W) (h : Below a.heap.size a W := by repeat (first | with_reducible exact Below.refl _ _ | with_reducible exact Hid.out (by assumption) | with_reducible refine Below.setCell ?_ (by first | (simp; done) | omega | (simp <;> omega)) _ | with_reducible refine bl_al ?_ _ | with_reducible apply Below.drew)) : Hid (Below a.heap.size a R) := by subst e; exact h
theorem nn {a b : Nat} (h : ¬ (a = b) := by omega) : ¬ (a = b) ∧ ¬ (b = a) := ⟨h, fun e => h e.symm⟩
theorem bcl {B j : Nat} {R X : World} (h : Below R.heap.size R X) (z : B < R.heap.size) : X.cell? ⟨B, j, none⟩ = R.cell? ⟨B, j, none⟩ := (bcell h).1 _ _ z
theorem bfz {B : Nat} {R X : World} (h : Below R.heap.size R X) (z : B < R.heap.size) (f : ∀ j, R.frozen? ⟨B, j, none⟩ = false) (j : Nat) : X.frozen? ⟨B, j, none⟩ = false := by rw [(bcell h).2 _ _ z]; exact f j
theorem nw {P : Program} {c : Code} {Q : Exit → Act → World → Prop} {a : Act} (W : World) (h : ∀ W', W' = W → Code.wp P c Q a W') : Code.wp P c Q a W := h W rfl
theorem cm {P : Program} {f : FuncId} {args : Array Value} {v : Value} {W : World} {Q : Ending → World → Prop} (h : Calls P f args W fun e w' => e = .returned v ∧ Below W.heap.size W w') (k : ∀ w1, (∀ b o, b < W.heap.size → w1.cell? ⟨b, o, none⟩ = W.cell? ⟨b, o, none⟩) → (∀ b o, b < W.heap.size → w1.frozen? ⟨b, o, none⟩ = W.frozen? ⟨b, o, none⟩) → Below W.heap.size W w1 → Q (.returned v) w1) : Calls P f args W Q :=
  h.mono fun e w1 ⟨he, hb⟩ => by subst he; exact k w1 (bcell hb).1 (bcell hb).2 hb
theorem ca {b j : Nat} {v : Value} {W w1 : World} (hcl : ∀ b o, b < W.heap.size → w1.cell? ⟨b, o, none⟩ = W.cell? ⟨b, o, none⟩) (h : b < W.heap.size := by first | omega | (simp; done) | (simp; omega)) (k : W.cell? ⟨b, j, none⟩ = some v := by simp [go_sem, *]) : w1.cell? ⟨b, j, none⟩ = some v := (hcl b j h).trans k
theorem fa {b : Nat} {W w1 : World} (hfr : ∀ b o, b < W.heap.size → w1.frozen? ⟨b, o, none⟩ = W.frozen? ⟨b, o, none⟩) (h : b < W.heap.size := by first | omega | (simp; done) | (simp; omega)) (k : ∀ j, W.frozen? ⟨b, j, none⟩ = false := by intro j; first | (simp [go_sem, *]; done) | (simp only [frozen?_alloc_cells]; simp [World.frozen?, *]; done) | (simp [frozen?_alloc_cells, World.frozen?, *]; done)) (j : Nat) : w1.frozen? ⟨b, j, none⟩ = false := (hfr b j h).trans (k j)
theorem fz {b : Nat} {R W : World} (e : R = W) (k : ∀ j, W.frozen? ⟨b, j, none⟩ = false := by intro j; first | (simp [go_sem, *]; done) | (simp only [frozen?_alloc_cells]; simp [World.frozen?, *]; done) | (simp [frozen?_alloc_cells, World.frozen?, *]; done)) (j : Nat) : R.frozen? ⟨b, j, none⟩ = false := by subst e; exact k j
theorem fzc {b : Nat} {W0 w1 R W : World} (hfr : ∀ b o, b < W0.heap.size → w1.frozen? ⟨b, o, none⟩ = W0.frozen? ⟨b, o, none⟩) (e : R = W) (k : (∀ b o, b < W0.heap.size → w1.frozen? ⟨b, o, none⟩ = W0.frozen? ⟨b, o, none⟩) → ∀ j, W.frozen? ⟨b, j, none⟩ = false := by intro hfr j; first | (simp [go_sem, *]; done) | (simp only [frozen?_alloc_cells]; rw [hfr _ _ (by first | omega | (simp <;> omega))]; simp [frozen?_alloc_cells, World.frozen?]; done) | (simp [frozen?_alloc_cells, World.frozen?, *]; done)) (j : Nat) : R.frozen? ⟨b, j, none⟩ = false := by subst e; exact k hfr j
theorem cz2 {R W : World} (h : R = W) (B : Nat) (v0 v1 : Value) (k : B < W.heap.size := by first | omega | (simp <;> omega)) (k0 : W.cell? ⟨B, 0, none⟩ = some v0 := by first | assumption | (simp [go_sem, *]; done)) (k1 : W.cell? ⟨B, 1, none⟩ = some v1 := by first | assumption | (simp [go_sem, *]; done)) : B < R.heap.size ∧ B < R.heap.size + 1 ∧ B < R.heap.size + 1 + 1 ∧ R.cell? ⟨B, 0, none⟩ = some v0 ∧ R.cell? ⟨B, 1, none⟩ = some v1 := by
  subst h; exact ⟨k, Nat.lt_succ_of_lt k, Nat.lt_succ_of_lt (Nat.lt_succ_of_lt k), k0, k1⟩
theorem cz3 {R W : World} (h : R = W) (B : Nat) (v0 v1 v2 : Value) (k : B < W.heap.size := by first | omega | (simp <;> omega)) (k0 : W.cell? ⟨B, 0, none⟩ = some v0 := by first | assumption | (simp [go_sem, *]; done)) (k1 : W.cell? ⟨B, 1, none⟩ = some v1 := by first | assumption | (simp [go_sem, *]; done)) (k2 : W.cell? ⟨B, 2, none⟩ = some v2 := by first | assumption | (simp [go_sem, *]; done)) : B < R.heap.size ∧ B < R.heap.size + 1 ∧ B < R.heap.size + 1 + 1 ∧ R.cell? ⟨B, 0, none⟩ = some v0 ∧ R.cell? ⟨B, 1, none⟩ = some v1 ∧ R.cell? ⟨B, 2, none⟩ = some v2 := by
  subst h; exact ⟨k, Nat.lt_succ_of_lt k, Nat.lt_succ_of_lt (Nat.lt_succ_of_lt k), k0, k1, k2⟩
theorem cz4 {R W : World} (h : R = W) (B : Nat) (v0 v1 v2 v3 : Value) (k : B < W.heap.size := by first | omega | (simp <;> omega)) (k0 : W.cell? ⟨B, 0, none⟩ = some v0 := by first | assumption | (simp [go_sem, *]; done)) (k1 : W.cell? ⟨B, 1, none⟩ = some v1 := by first | assumption | (simp [go_sem, *]; done)) (k2 : W.cell? ⟨B, 2, none⟩ = some v2 := by first | assumption | (simp [go_sem, *]; done)) (k3 : W.cell? ⟨B, 3, none⟩ = some v3 := by first | assumption | (simp [go_sem, *]; done)) : B < R.heap.size ∧ B < R.heap.size + 1 ∧ B < R.heap.size + 1 + 1 ∧ R.cell? ⟨B, 0, none⟩ = some v0 ∧ R.cell? ⟨B, 1, none⟩ = some v1 ∧ R.cell? ⟨B, 2, none⟩ = some v2 ∧ R.cell? ⟨B, 3, none⟩ = some v3 := by
  subst h; exact ⟨k, Nat.lt_succ_of_lt k, Nat.lt_succ_of_lt (Nat.lt_succ_of_lt k), k0, k1, k2, k3⟩
theorem cz5 {R W : World} (h : R = W) (B : Nat) (v0 v1 v2 v3 v4 : Value) (k : B < W.heap.size := by first | omega | (simp <;> omega)) (k0 : W.cell? ⟨B, 0, none⟩ = some v0 := by first | assumption | (simp [go_sem, *]; done)) (k1 : W.cell? ⟨B, 1, none⟩ = some v1 := by first | assumption | (simp [go_sem, *]; done)) (k2 : W.cell? ⟨B, 2, none⟩ = some v2 := by first | assumption | (simp [go_sem, *]; done)) (k3 : W.cell? ⟨B, 3, none⟩ = some v3 := by first | assumption | (simp [go_sem, *]; done)) (k4 : W.cell? ⟨B, 4, none⟩ = some v4 := by first | assumption | (simp [go_sem, *]; done)) : B < R.heap.size ∧ B < R.heap.size + 1 ∧ B < R.heap.size + 1 + 1 ∧ R.cell? ⟨B, 0, none⟩ = some v0 ∧ R.cell? ⟨B, 1, none⟩ = some v1 ∧ R.cell? ⟨B, 2, none⟩ = some v2 ∧ R.cell? ⟨B, 3, none⟩ = some v3 ∧ R.cell? ⟨B, 4, none⟩ = some v4 := by
  subst h; exact ⟨k, Nat.lt_succ_of_lt k, Nat.lt_succ_of_lt (Nat.lt_succ_of_lt k), k0, k1, k2, k3, k4⟩
end Go.Proofs.Ytmmlekgojblopaa
namespace Go.Proofs.Ytmmlekgojblopaa

theorem pow64 : (2 : Nat) ^ 64 = 18446744073709551616 := by decide
theorem two_split {r : Nat} (h : r ≤ 64) : (2 : Nat) ^ (64 - r) * 2 ^ r = 18446744073709551616 := by
  rw [← Nat.pow_add, show 64 - r + r = 64 by omega, pow64]

theorem shl_none_nat (V q r i : Nat) (h : i < q) : V * 2 ^ (64 * q + r) / 2 ^ (64 * i) % 18446744073709551616 = 0 := by
  rw [show 64 * q + r = 64 * i + (64 + (64 * (q - i - 1) + r)) by omega, Nat.pow_add, Nat.pow_add, ← Nat.mul_assoc, Nat.mul_comm V, Nat.mul_assoc, Nat.mul_div_cancel_left _ (Nat.two_pow_pos _), pow64, Nat.mul_comm V, Nat.mul_assoc, Nat.mul_mod_right]
theorem shl_lo_nat (V q r : Nat) : V * 2 ^ (64 * q + r) / 2 ^ (64 * q) % 18446744073709551616 = (V % 18446744073709551616) * 2 ^ r % 18446744073709551616 := by
  rw [Nat.pow_add, ← Nat.mul_assoc, Nat.mul_comm V, Nat.mul_assoc, Nat.mul_div_cancel_left _ (Nat.two_pow_pos _), Nat.mod_mul_mod]
theorem shl_hi_nat (V q r j : Nat) (hr : r ≤ 64) : V * 2 ^ (64 * q + r) / 2 ^ (64 * (q + j + 1)) % 18446744073709551616 =
    ((V / 2 ^ (64 * (j + 1)) % 18446744073709551616) * 2 ^ r + (V / 2 ^ (64 * j) % 18446744073709551616) / 2 ^ (64 - r)) % 18446744073709551616 := by
  have hs := two_split hr
  have e1 : V * 2 ^ (64 * q + r) / 2 ^ (64 * (q + j + 1)) = V / 2 ^ (64 * j) / 2 ^ (64 - r) := by
    rw [show 64 * (q + j + 1) = (64 * q + r) + (64 * j + (64 - r)) by omega, Nat.pow_add 2 (64 * q + r), Nat.mul_comm V, Nat.mul_div_mul_left _ _ (Nat.two_pow_pos _), Nat.pow_add, Nat.div_div_eq_div_mul]
  have e2 : V / 2 ^ (64 * (j + 1)) = V / 2 ^ (64 * j) / 18446744073709551616 := by
    rw [show 64 * (j + 1) = 64 * j + 64 by omega, Nat.pow_add, pow64, Nat.div_div_eq_div_mul]
  rw [e1, e2]
  generalize V / 2 ^ (64 * j) = A
  have hp := Nat.two_pow_pos (64 - r)
  generalize hS : 2 ^ (64 - r) = S at *
  generalize 2 ^ r = R at *
  have hA := Nat.div_add_mod A 18446744073709551616
  generalize A / 18446744073709551616 = H at *
  generalize A % 18446744073709551616 = l at *
  have e3 : A / S = R * H + l / S := by
    rw [← hA, ← hs, Nat.mul_assoc, Nat.mul_add_div hp]
  rw [e3, Nat.mul_comm R H, Nat.add_mod, Nat.add_mod (H % _ * R), Nat.mod_mul_mod]
theorem shr_nat (V q r k : Nat) (hr : r ≤ 64) : V / 2 ^ (64 * q + r) / 2 ^ (64 * k) % 18446744073709551616 =
    (V / 2 ^ (64 * (k + q)) % 18446744073709551616) / 2 ^ r + (V / 2 ^ (64 * (k + q + 1)) % 18446744073709551616) * 2 ^ (64 - r) % 18446744073709551616 := by
  have hs := two_split hr
  have e1 : V / 2 ^ (64 * q + r) / 2 ^ (64 * k) = V / 2 ^ (64 * (k + q)) / 2 ^ r := by
    rw [Nat.div_div_eq_div_mul, Nat.div_div_eq_div_mul, ← Nat.pow_add, ← Nat.pow_add]
    congr 2; omega
  have e2 : V / 2 ^ (64 * (k + q + 1)) = V / 2 ^ (64 * (k + q)) / 18446744073709551616 := by
    rw [show 64 * (k + q + 1) = 64 * (k + q) + 64 by omega, Nat.pow_add, pow64, Nat.div_div_eq_div_mul]
  rw [e1, e2]
  generalize V / 2 ^ (64 * (k + q)) = A
  have hp := Nat.two_pow_pos r
  have hp2 := Nat.two_pow_pos (64 - r)
  generalize 2 ^ (64 - r) = S at *
  generalize 2 ^ r = R at *
  have hA := Nat.div_add_mod A 18446744073709551616
  have hl := Nat.mod_lt A (show 18446744073709551616 > 0 by decide)
  generalize A / 18446744073709551616 = H at *
  generalize A % 18446744073709551616 = l at *
  have e3 : A / R = S * H + l / R := by
    rw [← hA, ← hs, Nat.mul_comm S R, Nat.mul_assoc, Nat.mul_add_div hp]
  have hlr : l / R < S := by rw [Nat.div_lt_iff_lt_mul hp, hs]; exact hl
  rw [e3, Nat.mod_mul_mod, Nat.mul_comm H S, ← hs, Nat.mul_mod_mul_left]
  have h4 : S * H = S * R * (H / R) + S * (H % R) := by
    rw [Nat.mul_assoc, ← Nat.mul_add, Nat.div_add_mod]
  have h5 : S * (H % R) + S ≤ S * R := by
    have := Nat.mod_lt H hp
    have h := Nat.mul_le_mul_left S (show H % R + 1 ≤ R by omega)
    rw [Nat.mul_add, Nat.mul_one] at h
    exact h
  rw [h4, Nat.add_assoc, Nat.mul_add_mod_self_left, Nat.mod_eq_of_lt (by omega), Nat.add_comm]

/-! The same of words, as integers. -/
theorem wd_eq (n i : Nat) : wd n i = ((n / 2 ^ (64 * i) % 18446744073709551616 : Nat) : Int) := rfl
theorem shl_none {V q r i : Nat} (h : i < q) : wd (V * 2 ^ (64 * q + r)) i = 0 := by rw [wd_eq, shl_none_nat _ _ _ _ h]; rfl
theorem cast_mul (a b : Nat) : (a : Int) * 2 ^ b = ((a * 2 ^ b : Nat) : Int) := by simp
theorem cast_div (a b : Nat) : (a : Int) / 2 ^ b = ((a / 2 ^ b : Nat) : Int) := by simp
theorem cast_mod (a : Nat) : (a : Int) % 18446744073709551616 = ((a % 18446744073709551616 : Nat) : Int) := by simp
theorem cast_add (a b : Nat) : (a : Int) + b = ((a + b : Nat) : Int) := by simp
theorem shl_lo (V q r : Nat) : wd (V * 2 ^ (64 * q + r)) q = IntKind.u64.wrap (wd V 0 * 2 ^ r) := by
  rw [wd_eq, shl_lo_nat, wrap_u64, wd0, cast_mul, cast_mod]
theorem or_nat {P Q r : Nat} (_ : r ≤ 64) (hP : P < 18446744073709551616) (hm : P % 2 ^ r = 0) (hQ : Q < 2 ^ r) (hQ2 : Q < 18446744073709551616) : bits .or .u64 (P : Int) (Q : Int) = ((P + Q : Nat) : Int) := by
  rw [bits_join .u64 64 (by decide) (fun n h0 h1 => IntWalk.u64_in n (by omega)) r _ _ (by omega) (by exact_mod_cast hm) (by omega) (by omega) (by exact_mod_cast hQ) (by omega)]
  simp
theorem or_join_nat {X Y r : Nat} (hr : r ≤ 64) (_ : X < 18446744073709551616) (hY : Y < 18446744073709551616) :
    bits .or .u64 ((X * 2 ^ r % 18446744073709551616 : Nat) : Int) ((Y / 2 ^ (64 - r) : Nat) : Int) = (((X * 2 ^ r + Y / 2 ^ (64 - r)) % 18446744073709551616 : Nat) : Int) ∧
    X * 2 ^ r % 18446744073709551616 + Y / 2 ^ (64 - r) = (X * 2 ^ r + Y / 2 ^ (64 - r)) % 18446744073709551616 := by
  have hs := two_split hr
  have hp := Nat.two_pow_pos r
  have hp2 := Nat.two_pow_pos (64 - r)
  have hy2 : Y / 2 ^ (64 - r) < 2 ^ r := by rw [Nat.div_lt_iff_lt_mul hp2, Nat.mul_comm, hs]; omega
  have hm : X * 2 ^ r % 18446744073709551616 = 2 ^ r * (X % 2 ^ (64 - r)) := by rw [← hs, Nat.mul_comm X, Nat.mul_comm (2 ^ (64 - r)), Nat.mul_mod_mul_left]
  have hd : X * 2 ^ r % 18446744073709551616 % 2 ^ r = 0 := by rw [hm]; exact Nat.mul_mod_right _ _
  have hy3 : Y / 2 ^ (64 - r) < 18446744073709551616 := Nat.lt_of_le_of_lt (Nat.div_le_self _ _) hY
  have h6 : X * 2 ^ r % 18446744073709551616 + Y / 2 ^ (64 - r) < 18446744073709551616 := by
    rw [hm]
    have h7 := Nat.mul_le_mul_left (2 ^ r) (show X % 2 ^ (64 - r) + 1 ≤ 2 ^ (64 - r) from Nat.mod_lt _ hp2)
    rw [Nat.mul_add, Nat.mul_comm _ (2 ^ (64 - r)), hs] at h7
    omega
  have h8 : X * 2 ^ r % 18446744073709551616 + Y / 2 ^ (64 - r) = (X * 2 ^ r + Y / 2 ^ (64 - r)) % 18446744073709551616 := by
    clear hm hd hy2
    generalize X * 2 ^ r = P at *
    generalize Y / 2 ^ (64 - r) = Q at *
    omega
  exact ⟨by rw [or_nat hr (Nat.mod_lt _ (by decide)) hd hy2 hy3, h8], h8⟩
theorem or_join {x y : Int} {r : Nat} (hr : r ≤ 64) (hx : Wd x) (hy : Wd y) : bits .or .u64 (IntKind.u64.wrap (x * 2 ^ r)) (y / 2 ^ (64 - r)) = (x * 2 ^ r + y / 2 ^ (64 - r)) % 18446744073709551616 := by
  obtain ⟨x0, x1⟩ := hx; obtain ⟨y0, y1⟩ := hy
  obtain ⟨X, rfl⟩ := Int.eq_ofNat_of_zero_le x0
  obtain ⟨Y, rfl⟩ := Int.eq_ofNat_of_zero_le y0
  rw [wrap_u64, cast_mul, cast_div, cast_add, cast_mod, cast_mod]
  exact (or_join_nat hr (by omega) (by omega)).1
theorem shl_hi (V q r j : Nat) (hr : r ≤ 64) : wd (V * 2 ^ (64 * q + r)) (q + j + 1) = bits .or .u64 (IntKind.u64.wrap (wd V (j + 1) * 2 ^ r)) (wd V j / 2 ^ (64 - r)) := by
  rw [or_join hr (wd_wd _ _) (wd_wd _ _), wd_eq, shl_hi_nat _ _ _ _ hr, wd_eq, wd_eq, cast_mul, cast_div, cast_add, cast_mod]
theorem or_join2 {x y : Int} {r : Nat} (hr : r ≤ 64) (hx : Wd x) (hy : Wd y) : bits .or .u64 (x / 2 ^ r) (IntKind.u64.wrap (y * 2 ^ (64 - r))) = x / 2 ^ r + y * 2 ^ (64 - r) % 18446744073709551616 := by
  have hc : bits .or .u64 (x / 2 ^ r) (IntKind.u64.wrap (y * 2 ^ (64 - r))) = bits .or .u64 (IntKind.u64.wrap (y * 2 ^ (64 - r))) (x / 2 ^ r) := by
    simp only [bits, BitVec.or_comm]
  rw [hc]
  obtain ⟨x0, x1⟩ := hx; obtain ⟨y0, y1⟩ := hy
  obtain ⟨X, rfl⟩ := Int.eq_ofNat_of_zero_le x0
  obtain ⟨Y, rfl⟩ := Int.eq_ofNat_of_zero_le y0
  have h := or_join_nat (r := 64 - r) (X := Y) (Y := X) (by omega) (by omega) (by omega)
  rw [show 64 - (64 - r) = r by omega] at h
  rw [wrap_u64, cast_mul, cast_div, cast_mod, cast_add, h.1, ← h.2, Nat.add_comm]
theorem shr_w (V q r k : Nat) (hr : r ≤ 64) : wd (V / 2 ^ (64 * q + r)) k = bits .or .u64 (wd V (k + q) / 2 ^ r) (IntKind.u64.wrap (wd V (k + q + 1) * 2 ^ (64 - r))) := by
  rw [or_join2 hr (wd_wd _ _) (wd_wd _ _), wd_eq, shr_nat _ _ _ _ hr, wd_eq, wd_eq, cast_mul, cast_div, cast_mod, cast_add]
theorem wd_high {V k : Nat} (h : V < 115792089237316195423570985008687907853269984665640564039457584007913129639936) (hk : 4 ≤ k) : wd V k = 0 := by
  rw [wd_eq, Nat.div_eq_of_lt]
  · rfl
  · refine Nat.lt_of_lt_of_le h ?_
    rw [show (115792089237316195423570985008687907853269984665640564039457584007913129639936 : Nat) = 2 ^ 256 by decide]
    exact Nat.pow_le_pow_right (by decide) (by omega)
theorem or_zero (x : Int) (h : Wd x) : bits .or .u64 0 x = x := by
  obtain ⟨x0, x1⟩ := h
  obtain ⟨X, rfl⟩ := Int.eq_ofNat_of_zero_le x0
  have := (bits_nat .u64 64 (by decide) (fun n h0 h1 => IntWalk.u64_in n (by omega)) 0 X (by decide) (by omega)).2
  simpa using this
theorem wd_div {x : Int} (h : Wd x) (r : Nat) : Wd (x / 2 ^ r) := by
  obtain ⟨x0, x1⟩ := h
  obtain ⟨X, rfl⟩ := Int.eq_ofNat_of_zero_le x0
  rw [cast_div]
  have := Nat.div_le_self X (2 ^ r)
  generalize X / 2 ^ r = Q at *
  exact ⟨by omega, by omega⟩
theorem or_zero2 (x : Int) (h : Wd x) : bits .or .u64 x 0 = x := by
  have := or_zero x h
  simp only [bits, BitVec.or_comm] at this ⊢
  exact this
theorem shr_zero (r : Nat) : (0 : Int) = bits .or .u64 (0 / 2 ^ r) (IntKind.u64.wrap (0 * 2 ^ (64 - r))) := by
  rw [Int.zero_mul, Int.zero_ediv]; rfl
theorem shr_top {x : Int} (h : Wd x) (r : Nat) : bits .or .u64 0 (x / 2 ^ r) = bits .or .u64 (x / 2 ^ r) (IntKind.u64.wrap (0 * 2 ^ (64 - r))) := by
  rw [Int.zero_mul, or_zero _ (wd_div h r), show IntKind.u64.wrap 0 = 0 from rfl, or_zero2 _ (wd_div h r)]
theorem shr_mid {x : Int} (h : Wd x) (r : Nat) (y : Int) : bits .or .u64 (bits .or .u64 0 (x / 2 ^ r)) y = bits .or .u64 (x / 2 ^ r) y := by
  rw [or_zero _ (wd_div h r)]
end Go.Proofs.Ytmmlekgojblopaa
namespace Go.Proofs.Ytmmlekgojblopaa
open Go.RowKit

theorem ret_twob {a b a' b' : Int} {c c' : Bool} (h : a = a') (g : b = b') (k : c = c') : Ending.returned (.tuple #[.agg #[.int .u64 a, .int .u64 b], .bool c]) = .returned (.tuple #[.agg #[.int .u64 a', .int .u64 b'], .bool c']) := by rw [h, g, k]
theorem ret_agg2 {a b a' b' : Int} (h : a = a') (g : b = b') : Ending.returned (.agg #[.int .u64 a, .int .u64 b]) = .returned (.agg #[.int .u64 a', .int .u64 b']) := by rw [h, g]
theorem ret_agg4 {a b c d a' b' c' d' : Int} (h : a = a') (g : b = b') (h2 : c = c') (g2 : d = d') : Ending.returned (.agg #[.int .u64 a, .int .u64 b, .int .u64 c, .int .u64 d]) = .returned (.agg #[.int .u64 a', .int .u64 b', .int .u64 c', .int .u64 d']) := by rw [h, g, h2, g2]

theorem add_any (a1 a0 b1 b0 : Int) (ha1 : Wd a1) (ha0 : Wd a0) (hb1 : Wd b1) (hb0 : Wd b0) (w : World) :
    Calls Try.prog 60 #[.agg #[.int .u64 a1, .int .u64 a0], .agg #[.int .u64 b1, .int .u64 b0]] w fun e w' =>
      e = .returned (.tuple #[.agg #[.int .u64 (wd (v2 a1 a0 + v2 b1 b0) 1), .int .u64 (wd (v2 a1 a0 + v2 b1 b0) 0)], .bool (decide (340282366920938463463374607431768211456 ≤ v2 a1 a0 + v2 b1 b0))]) ∧ Below w.heap.size w w' := by
  have k1 := ha1.1; have k2 := ha1.2; have k3 := ha0.1; have k4 := ha0.2; have k5 := hb1.1; have k6 := hb1.2; have k7 := hb0.1; have k8 := hb0.2
  go_enter Try.func60, Try.ntmps60
  go_wp2_with (go_at_call 81; refine (addWord_any _ _ _ (by assumption) (by assumption) (by omega) (by omega) _).mono ?_; rintro e w' ⟨rfl, rfl⟩)
  go_returns
  exact ⟨ret_twob (add_hi ha1 ha0 hb1 hb0) (add_lo ha0 hb0) (add_over ha1 ha0 hb1 hb0), by go_grown⟩
theorem sub_any (a1 a0 b1 b0 : Int) (ha1 : Wd a1) (ha0 : Wd a0) (hb1 : Wd b1) (hb0 : Wd b0) (w : World) :
    Calls Try.prog 85 #[.agg #[.int .u64 a1, .int .u64 a0], .agg #[.int .u64 b1, .int .u64 b0]] w fun e w' =>
      e = .returned (.tuple #[.agg #[.int .u64 (wd (v2 a1 a0 + (340282366920938463463374607431768211456 - v2 b1 b0)) 1), .int .u64 (wd (v2 a1 a0 + (340282366920938463463374607431768211456 - v2 b1 b0)) 0)], .bool (decide (v2 a1 a0 < v2 b1 b0))]) ∧ Below w.heap.size w w' := by
  have k1 := ha1.1; have k2 := ha1.2; have k3 := ha0.1; have k4 := ha0.2; have k5 := hb1.1; have k6 := hb1.2; have k7 := hb0.1; have k8 := hb0.2
  go_enter Try.func85, Try.ntmps85
  go_wp2_with (go_at_call 92; refine (subWord_any _ _ _ (by assumption) (by assumption) (by omega) (by omega) _).mono ?_; rintro e w' ⟨rfl, rfl⟩)
  go_returns
  exact ⟨ret_twob (sub_hi ha1 ha0 hb1 hb0) (sub_lo ha0 hb1 hb0) (sub_over ha1 ha0 hb1 hb0), by go_grown⟩
theorem len_any (a3 a2 a1 a0 : Int) (h3 : Wd a3) (h2 : Wd a2) (h1 : Wd a1) (h0 : Wd a0) (w : World) :
    Calls Try.prog 66 #[.agg #[.int .u64 a3, .int .u64 a2, .int .u64 a1, .int .u64 a0]] w fun e w' =>
      e = .returned (.int .i64 ((blen (v4 a3 a2 a1 a0) : Nat) : Int)) ∧ Below w.heap.size w w' := by
  have b3 := blen_word h3; have b2 := blen_word h2; have b1 := blen_word h1
  by_cases c3 : a3 = 0
  · by_cases c2 : a2 = 0
    · by_cases c1 : a1 = 0
      · subst c3; subst c2; subst c1
        go_enter Try.func66, Try.ntmps66
        go_wp2_with (go_at_call 86; refine (lenWord_any _ (by assumption) _).mono ?_; rintro e w' ⟨rfl, rfl⟩)
        go_returns
        exact ⟨ret_int len0, by go_grown⟩
      · subst c3; subst c2
        have E := Lib.hid (len1 h1 h0 c1)
        have t1 : (a1 != 0) = true := by simpa using c1
        go_enter Try.func66, Try.ntmps66
        go_wp2_with (go_at_call 86; refine (lenWord_any _ (by assumption) _).mono ?_; rintro e w' ⟨rfl, rfl⟩)
        go_returns
        exact ⟨ret_int E.out, by go_grown⟩
    · subst c3
      have E := Lib.hid (len2 h2 h1 h0 c2)
      have t1 : (a2 != 0) = true := by simpa using c2
      go_enter Try.func66, Try.ntmps66
      go_wp2_with (go_at_call 86; refine (lenWord_any _ (by assumption) _).mono ?_; rintro e w' ⟨rfl, rfl⟩)
      go_returns
      exact ⟨ret_int E.out, by go_grown⟩
  · have E := Lib.hid (len3 h3 h2 h1 h0 c3)
    have t1 : (a3 != 0) = true := by simpa using c3
    go_enter Try.func66, Try.ntmps66
    go_wp2_with (go_at_call 86; refine (lenWord_any _ (by assumption) _).mono ?_; rintro e w' ⟨rfl, rfl⟩)
    go_returns
    exact ⟨ret_int E.out, by go_grown⟩
theorem compare_any (a b : Int) (w : World) :
    Calls Try.prog 91 #[.int .u64 a, .int .u64 b] w fun e w' => e = .returned (.int .i64 (icmp a b)) ∧ w = w' := by
  rcases (show a < b ∨ a = b ∨ b < a by omega) with h | rfl | h
  · have E : Hid (-1 = icmp a b) := by show _ = _; unfold icmp; rw [if_pos h]
    go_enter Try.func91, Try.ntmps91
    go_wp2
    go_returns
    exact ⟨ret_int E.out, rfl⟩
  · have E : Hid (0 = icmp a a) := by show _ = _; unfold icmp; simp
    go_enter Try.func91, Try.ntmps91
    go_wp2
    go_returns
    exact ⟨ret_int E.out, rfl⟩
  · have E : Hid (1 = icmp a b) := by show _ = _; unfold icmp; rw [if_neg (by omega), if_pos h]
    have hn : ¬ a < b := by omega
    go_enter Try.func91, Try.ntmps91
    go_wp2
    go_returns
    exact ⟨ret_int E.out, rfl⟩
theorem or_any (x y : Int) (B : Nat) (w : World) (hx : w.cell? ⟨B, 0, none⟩ = some (.int .i64 x)) (hy : w.cell? ⟨B, 1, none⟩ = some (.int .i64 y)) :
    Calls Try.prog 74 #[.slice (some ⟨B, 0, none⟩) 2 2] w fun e w' => e = .returned (.int .i64 (orI x y)) ∧ w = w' := by
  by_cases c : x = 0
  · by_cases d : y = 0
    · subst c; subst d
      have E : Hid (0 = orI 0 0) := by show _ = _; unfold orI; simp
      go_enter Try.func74, Try.ntmps74
      go_wp2
      go_rounds 3
      go_returns
      exact ⟨ret_int E.out, rfl⟩
    · subst c
      have E : Hid (y = orI 0 y) := by show _ = _; unfold orI; simp
      have t1 : (y != 0) = true := by simpa using d
      go_enter Try.func74, Try.ntmps74
      go_wp2
      go_rounds 3
      go_returns
      exact ⟨ret_int E.out, rfl⟩
  · have E : Hid (x = orI x y) := by show _ = _; unfold orI; simp [c]
    have t1 : (x != 0) = true := by simpa using c
    go_enter Try.func74, Try.ntmps74
    go_wp2
    go_rounds 3
    go_returns
    exact ⟨ret_int E.out, rfl⟩
theorem cmpTwo_any (a1 a0 b1 b0 : Int) (ha1 : Wd a1) (ha0 : Wd a0) (hb1 : Wd b1) (hb0 : Wd b0) (w : World) :
    Calls Try.prog 75 #[.agg #[.int .u64 a1, .int .u64 a0], .agg #[.int .u64 b1, .int .u64 b0]] w fun e w' =>
      e = .returned (.int .i64 (icmp ((v2 a1 a0 : Nat) : Int) ((v2 b1 b0 : Nat) : Int))) ∧ Below w.heap.size w w' := by
  have E := Lib.hid (icmp_two ha1 ha0 hb1 hb0)
  go_enter Try.func75, Try.ntmps75
  go_wp2
  go_region_held3 (fun w' => w'.cell? ⟨w.heap.size, 0, none⟩ = some (.int .u64 a1) ∧ w'.cell? ⟨w.heap.size, 1, none⟩ = some (.int .u64 a0) ∧ w'.cell? ⟨w.heap.size + 1, 0, none⟩ = some (.int .u64 b1) ∧ w'.cell? ⟨w.heap.size + 1, 1, none⟩ = some (.int .u64 b0)) (simp [go_sem, World.cell?_alloc_past])
    (first
      | (go_at_call 91; refine (compare_any _ _ _).mono ?_; rintro e w' ⟨rfl, rfl⟩)
      | (go_at_call 74; refine (or_any (icmp a1 b1) (icmp a0 b0) _ _ (by simp [go_sem]) (by simp [go_sem])).mono ?_; rintro e w' ⟨rfl, rfl⟩))
  rename_i hHeld
  clear hHeld
  go_wp2
  go_returns
  exact ⟨ret_int E.out, by go_grown⟩
end Go.Proofs.Ytmmlekgojblopaa
namespace Go.Proofs.Ytmmlekgojblopaa

/-- The greatest number whose square is at most n. -/
def isq : Nat → Nat
  | 0 => 0
  | n + 1 => if (isq n + 1) * (isq n + 1) ≤ n + 1 then isq n + 1 else isq n
theorem isq_spec (n : Nat) : isq n * isq n ≤ n ∧ n < (isq n + 1) * (isq n + 1) := by
  induction n with
  | zero => exact ⟨by decide, by decide⟩
  | succ n ih =>
    obtain ⟨h1, h2⟩ := ih
    unfold isq
    generalize isq n = r at *
    by_cases c : (r + 1) * (r + 1) ≤ n + 1
    · rw [if_pos c]
      refine ⟨c, ?_⟩
      have : (r + 1 + 1) * (r + 1 + 1) = (r + 1) * (r + 1) + 2 * (r + 1) + 1 := by
        simp only [Nat.add_mul, Nat.mul_add]; omega
      omega
    · rw [if_neg c]
      exact ⟨by omega, by omega⟩
theorem isq_of {n r : Nat} (h1 : r * r ≤ n) (h2 : n < (r + 1) * (r + 1)) : isq n = r := by
  obtain ⟨a, b⟩ := isq_spec n
  generalize isq n = s at *
  rcases (show s < r ∨ s = r ∨ r < s by omega) with h | h | h
  · have := Nat.mul_le_mul (show s + 1 ≤ r from h) (show s + 1 ≤ r from h); omega
  · exact h
  · have := Nat.mul_le_mul (show r + 1 ≤ s from h) (show r + 1 ≤ s from h); omega
theorem isq_le {n s : Nat} (h : n < (s + 1) * (s + 1)) : isq n ≤ s := by
  obtain ⟨a, b⟩ := isq_spec n
  generalize isq n = r at *
  rcases (show r ≤ s ∨ s + 1 ≤ r by omega) with h' | h'
  · exact h'
  · have := Nat.mul_le_mul h' h'; omega
theorem isq_lt {n k : Nat} (h : n < k * k) : isq n < k := by
  obtain ⟨a, b⟩ := isq_spec n
  generalize isq n = r at *
  rcases (show r < k ∨ k ≤ r by omega) with h' | h'
  · exact h'
  · have := Nat.mul_le_mul h' h'; omega

/-- What the search for a word's root keeps: j bits are still to come, s is the root so far. -/
def RW (n : Nat) (W R B : Int) : Prop := ∃ j s : Nat, j ≤ 32 ∧ s < 4294967296 ∧ s % 2 ^ j = 0 ∧ s * s ≤ n ∧ n < (s + 2 ^ j) * (s + 2 ^ j) ∧ W = ((n - s * s : Nat) : Int) ∧ R = ((s * 2 ^ j : Nat) : Int) ∧ B = ((4 ^ j / 4 : Nat) : Int)
theorem RW_start {n : Nat} (h : n < 18446744073709551616) : RW n n 0 4611686018427387904 := by
  refine ⟨32, 0, by decide, by decide, by decide, by omega, ?_, by simp, by simp, by decide⟩
  rw [show (0 + 2 ^ 32) * (0 + 2 ^ 32) = 18446744073709551616 by decide]
  exact h
theorem RW_end {n : Nat} {W R : Int} (h : RW n W R 0) : R = ((isq n : Nat) : Int) := by
  obtain ⟨j, s, hj, hs, hm, h1, h2, hW, hR, hB⟩ := h
  have hB' : 4 ^ j / 4 = 0 := by omega
  have : j = 0 := by
    rcases (show j = 0 ∨ 1 ≤ j by omega) with h | h
    · exact h
    · have : 4 ^ 1 ≤ 4 ^ j := Nat.pow_le_pow_right (by decide) h
      omega
  subst this
  rw [hR, isq_of h1 (by simpa using h2)]; simp
/-- One bit: what stands in the way of the words' own operations is nothing. -/
theorem RW_bits {n : Nat} {W R B : Int} (hn : n < 18446744073709551616) (h : RW n W R B) (hB : B ≠ 0) :
    bits .or .u64 R B = R + B ∧ bits .or .u64 (R / 2) B = R / 2 + B ∧ 0 ≤ W ∧ W < 18446744073709551616 ∧ 0 ≤ R ∧ R + B < 18446744073709551616 ∧ 1 ≤ B ∧
    (R + B ≤ W → RW n (W - (R + B)) (R / 2 + B) (B / 4)) ∧ (W < R + B → RW n W (R / 2) (B / 4)) := by
  obtain ⟨j, s, hj, hs, hm, h1, h2, hW, hR, hB'⟩ := h
  have hj1 : 1 ≤ j := by
    rcases (show j = 0 ∨ 1 ≤ j by omega) with h | h
    · subst h; exact absurd (by rw [hB']; rfl) hB
    · exact h
  obtain ⟨k, rfl⟩ : ∃ k, j = k + 1 := ⟨j - 1, by omega⟩
  have e4 : 4 ^ (k + 1) / 4 = 4 ^ k := by rw [Nat.pow_succ, Nat.mul_div_cancel _ (by decide)]
  have e4' : (4 : Nat) ^ k = 2 ^ k * 2 ^ k := by rw [show (4 : Nat) = 2 * 2 by decide, Nat.mul_pow]
  have hk : k ≤ 31 := by omega
  have hp := Nat.two_pow_pos k
  have hp31 : 2 ^ k ≤ 2147483648 := by
    rw [show (2147483648 : Nat) = 2 ^ 31 by decide]; exact Nat.pow_le_pow_right (by decide) hk
  have hBk : B = ((2 ^ k * 2 ^ k : Nat) : Int) := by rw [hB', e4, e4']
  obtain ⟨m, rfl⟩ : ∃ m, s = m * 2 ^ (k + 1) := ⟨s / 2 ^ (k + 1), by have := Nat.div_add_mod s (2 ^ (k + 1)); rw [Nat.mul_comm]; omega⟩
  have h2k : (2 : Nat) ^ (k + 1) = 2 * 2 ^ k := by rw [Nat.pow_succ, Nat.mul_comm]
  have hM : 2 ^ (31 - k) * (2 * 2 ^ k) = 4294967296 := by
    rw [← h2k, ← Nat.pow_add, show 31 - k + (k + 1) = 32 by omega]
  have hi : 2 ^ (2 * k + 1) = 2 * (2 ^ k * 2 ^ k) := by rw [Nat.pow_succ, Nat.two_mul, Nat.pow_add, Nat.mul_comm]
  rw [h2k] at hs hm h1 h2 hW hR
  have ek : 4 ^ (k + 1) / 4 / 4 = 4 ^ k / 4 := by rw [e4]
  have hmM : m < 2 ^ (31 - k) := Nat.lt_of_mul_lt_mul_right (by rw [hM]; exact hs)
  have hs2 : m * (2 * 2 ^ k) + 2 * 2 ^ k ≤ 4294967296 := by
    rw [← hM]
    have := Nat.mul_le_mul_right (2 * 2 ^ k) hmM
    rw [Nat.succ_mul] at this
    exact this
  have hR4 : m * (2 * 2 ^ k) * (2 * 2 ^ k) = 4 * (m * (2 ^ k * 2 ^ k)) := by
    generalize (2 : Nat) ^ k = P
    rw [Nat.mul_assoc, show 2 * P * (2 * P) = 4 * (P * P) by rw [Nat.mul_assoc, Nat.mul_left_comm P, ← Nat.mul_assoc 2 2], Nat.mul_left_comm]
  have hRB : 4 * (m * (2 ^ k * 2 ^ k)) + 4 * (2 ^ k * 2 ^ k) ≤ 8589934592 * 2 ^ k := by
    have := Nat.mul_le_mul_right (2 * 2 ^ k) hs2
    rw [Nat.add_mul, hR4] at this
    generalize (2 : Nat) ^ k = P at *
    have e : 2 * P * (2 * P) = 4 * (P * P) := by rw [Nat.mul_assoc, Nat.mul_left_comm P, ← Nat.mul_assoc 2 2]
    omega
  have hnext : (m * (2 * 2 ^ k) + 2 ^ k) * (m * (2 * 2 ^ k) + 2 ^ k) = m * (2 * 2 ^ k) * (m * (2 * 2 ^ k)) + (4 * (m * (2 ^ k * 2 ^ k)) + 2 ^ k * 2 ^ k) := by
    generalize (2 : Nat) ^ k = P
    have e1 : m * (2 * P) * P = 2 * (m * (P * P)) := by rw [Nat.mul_assoc, Nat.mul_assoc, Nat.mul_left_comm]
    have e2 : P * (m * (2 * P)) = 2 * (m * (P * P)) := by rw [Nat.mul_comm, e1]
    rw [Nat.add_mul, Nat.mul_add, Nat.mul_add, e1, e2]; omega
  rw [hR4] at hR
  have hQ1 := Nat.mul_pos hp hp
  have hs3 : m * (2 * 2 ^ k) + 2 ^ k < 4294967296 := by omega
  have hmod : (m * (2 * 2 ^ k) + 2 ^ k) % 2 ^ k = 0 := by
    rw [← Nat.mul_assoc, Nat.add_mod_right, Nat.mul_mod_left]
  have hmod0 : m * (2 * 2 ^ k) % 2 ^ k = 0 := by rw [← Nat.mul_assoc, Nat.mul_mod_left]
  have hnew : (m * (2 * 2 ^ k) + 2 ^ k) * 2 ^ k = 2 * (m * (2 ^ k * 2 ^ k)) + 2 ^ k * 2 ^ k := by
    generalize (2 : Nat) ^ k = P
    rw [Nat.add_mul, Nat.mul_assoc, Nat.mul_assoc, Nat.mul_left_comm]
  have hold : m * (2 * 2 ^ k) * 2 ^ k = 2 * (m * (2 ^ k * 2 ^ k)) := by
    generalize (2 : Nat) ^ k = P
    rw [Nat.mul_assoc, Nat.mul_assoc, Nat.mul_left_comm]
  have htwo : m * (2 * 2 ^ k) + 2 * 2 ^ k = m * (2 * 2 ^ k) + 2 ^ k + 2 ^ k := by omega
  rw [htwo] at h2
  have hdv1 : ((4 * (m * (2 ^ k * 2 ^ k)) : Nat) : Int) % 2 ^ (2 * k + 1) = 0 := by
    have : (4 * (m * (2 ^ k * 2 ^ k))) % 2 ^ (2 * k + 1) = 0 := by
      rw [hi, show 4 * (m * (2 ^ k * 2 ^ k)) = 2 * m * (2 * (2 ^ k * 2 ^ k)) by generalize (2 ^ k * 2 ^ k : Nat) = Q; rw [Nat.mul_assoc 2 m, Nat.mul_left_comm m, ← Nat.mul_assoc 2 2], Nat.mul_mod_left]
    exact_mod_cast this
  have hdv2 : ((2 * (m * (2 ^ k * 2 ^ k)) : Nat) : Int) % 2 ^ (2 * k + 1) = 0 := by
    have : (2 * (m * (2 ^ k * 2 ^ k))) % 2 ^ (2 * k + 1) = 0 := by
      rw [hi, show 2 * (m * (2 ^ k * 2 ^ k)) = m * (2 * (2 ^ k * 2 ^ k)) by rw [Nat.mul_left_comm], Nat.mul_mod_left]
    exact_mod_cast this
  have hlt : ((2 ^ k * 2 ^ k : Nat) : Int) < 2 ^ (2 * k + 1) := by
    have : 2 ^ k * 2 ^ k < 2 ^ (2 * k + 1) := by rw [hi]; omega
    exact_mod_cast this
  have hPP : 2 ^ k * 2 ^ k ≤ 4611686018427387904 := Nat.mul_le_mul hp31 hp31
  refine ⟨?_, ?_, ?_, ?_, ?_, ?_, ?_, fun hle => ?_, fun hlt => ?_⟩
  · rw [hR, hBk]
    generalize m * (2 ^ k * 2 ^ k) = mQ at *
    generalize 2 ^ k * 2 ^ k = Q at *
    rw [bits_join .u64 64 (by decide) (fun n h0 h1 => IntWalk.u64_in n (by omega)) (2 * k + 1) _ _ (by omega) hdv1 (by omega) (by omega) hlt (by omega)]
  · have hR2 : R / 2 = ((2 * (m * (2 ^ k * 2 ^ k)) : Nat) : Int) := by rw [hR]; omega
    rw [hR2, hBk]
    generalize m * (2 ^ k * 2 ^ k) = mQ at *
    generalize 2 ^ k * 2 ^ k = Q at *
    rw [bits_join .u64 64 (by decide) (fun n h0 h1 => IntWalk.u64_in n (by omega)) (2 * k + 1) _ _ (by omega) hdv2 (by omega) (by omega) hlt (by omega)]
  · rw [hW]; omega
  · rw [hW]; omega
  · rw [hR]; omega
  · rw [hR, hBk]
    generalize m * (2 ^ k * 2 ^ k) = mQ at *
    generalize 2 ^ k * 2 ^ k = Q at *
    omega
  · rw [hBk]; omega
  · refine ⟨k, m * (2 * 2 ^ k) + 2 ^ k, by omega, hs3, hmod, ?_, h2, ?_, ?_, ?_⟩
    · rw [hnext]; rw [hW, hR, hBk] at hle; omega
    · rw [hnext, hW, hR, hBk]; rw [hW, hR, hBk] at hle; omega
    · rw [hnew, hR, hBk]; omega
    · rw [hB', ← ek]; rfl
  · refine ⟨k, m * (2 * 2 ^ k), by omega, hs, hmod0, h1, ?_, hW, ?_, ?_⟩
    · rw [hnext]; rw [hW, hR, hBk] at hlt; omega
    · rw [hold, hR]; omega
    · rw [hB', ← ek]; rfl
end Go.Proofs.Ytmmlekgojblopaa
namespace Go.Proofs.Ytmmlekgojblopaa

theorem four_mul_le {x y : Nat} (h : x ≤ y) : 4 * (x * y) ≤ (x + y) * (x + y) := by
  obtain ⟨d, rfl⟩ := Nat.exists_eq_add_of_le h
  simp only [Nat.add_mul, Nat.mul_add]
  rw [Nat.mul_comm d x]
  omega
theorem four_mul (x y : Nat) : 4 * (x * y) ≤ (x + y) * (x + y) := by
  rcases Nat.le_total x y with h | h
  · exact four_mul_le h
  · rw [Nat.mul_comm x y, Nat.add_comm x y]; exact four_mul_le h
/-- The mean of s and n over s is never below the root. -/
theorem mean_ge {n s : Nat} (hs : s ≠ 0) : isq n ≤ (s + n / s) / 2 := by
  obtain ⟨a, -⟩ := isq_spec n
  generalize isq n = r at *
  have h1 : n < (n / s + 1) * s := by
    have := Nat.div_add_mod n s
    have := Nat.mod_lt n (show 0 < s by omega)
    rw [Nat.add_mul, Nat.mul_comm (n / s)]; omega
  generalize n / s = q at *
  rcases (show r ≤ (s + q) / 2 ∨ s + q + 1 ≤ 2 * r by omega) with h | h
  · exact h
  · have h2 := four_mul (q + 1) s
    have h3 := Nat.mul_le_mul (show q + 1 + s ≤ 2 * r by omega) (show q + 1 + s ≤ 2 * r by omega)
    have h4 : 2 * r * (2 * r) = 4 * (r * r) := by rw [Nat.mul_assoc, Nat.mul_left_comm r, ← Nat.mul_assoc 2 2]
    omega
/-- Where it falls no more, it is the root. -/
theorem root_there {n s : Nat} (_ : s ≠ 0) (h1 : isq n ≤ s) (h2 : s ≤ n / s) : isq n = s := by
  obtain ⟨-, b⟩ := isq_spec n
  refine isq_of ?_ ?_
  · have := Nat.mul_le_mul_right s h2
    exact Nat.le_trans this (Nat.div_mul_le_self n s)
  · have := Nat.mul_le_mul (show isq n + 1 ≤ s + 1 by omega) (show isq n + 1 ≤ s + 1 by omega)
    omega
/-- From what the search sets out. -/
def abv (n : Nat) : Nat := if (isq (n / 2 ^ (2 * (blen n / 4))) + 1) * 2 ^ (blen n / 4) < 340282366920938463463374607431768211456 then (isq (n / 2 ^ (2 * (blen n / 4))) + 1) * 2 ^ (blen n / 4) else 340282366920938463463374607431768211455
theorem up_pow (k : Nat) : (2 : Nat) ^ (2 * k) = 2 ^ k * 2 ^ k := by rw [Nat.two_mul, Nat.pow_add]
theorem isq_up (n k : Nat) : isq n < (isq (n / 2 ^ (2 * k)) + 1) * 2 ^ k := by
  apply isq_lt
  obtain ⟨-, b⟩ := isq_spec (n / 2 ^ (2 * k))
  generalize isq (n / 2 ^ (2 * k)) = r at *
  have hp := Nat.two_pow_pos (2 * k)
  have h1 : n < ((r + 1) * (r + 1)) * 2 ^ (2 * k) := by
    rw [Nat.div_lt_iff_lt_mul hp] at b; exact b
  rw [up_pow] at h1
  calc n < (r + 1) * (r + 1) * (2 ^ k * 2 ^ k) := h1
    _ = (r + 1) * 2 ^ k * ((r + 1) * 2 ^ k) := Nat.mul_mul_mul_comm _ _ _ _
theorem isq_128 {n : Nat} (h : n < 115792089237316195423570985008687907853269984665640564039457584007913129639936) : isq n < 340282366920938463463374607431768211456 := isq_lt (by omega)
theorem abv_ok {n : Nat} (h : n < 115792089237316195423570985008687907853269984665640564039457584007913129639936) : isq n ≤ abv n ∧ abv n ≠ 0 ∧ abv n < 340282366920938463463374607431768211456 := by
  have h1 := isq_up n (blen n / 4)
  have h2 := isq_128 h
  unfold abv
  split <;> refine ⟨?_, ?_, ?_⟩ <;> omega
/-- The root of the upper part has room for one more. -/
theorem up_room {n : Nat} (h : n < 115792089237316195423570985008687907853269984665640564039457584007913129639936) (hl : 64 < blen n) : isq (n / 2 ^ (2 * (blen n / 4))) + 1 < 340282366920938463463374607431768211456 ∧ n / 2 ^ (2 * (blen n / 4)) < n := by
  have hb := blen_le (n := n) (k := 256) (by rw [show (2 : Nat) ^ 256 = 115792089237316195423570985008687907853269984665640564039457584007913129639936 by decide]; exact h)
  have hn : n ≠ 0 := fun e => by subst e; simp [blen] at hl
  have hp : 2 ^ 32 ≤ 2 ^ (2 * (blen n / 4)) := Nat.pow_le_pow_right (by decide) (by omega)
  constructor
  · have h1 : n / 2 ^ (2 * (blen n / 4)) < 26959946667150639794667015087019630673637144422540572481103610249216 := by
      rw [Nat.div_lt_iff_lt_mul (by omega)]
      have := Nat.mul_le_mul_left 26959946667150639794667015087019630673637144422540572481103610249216 hp
      omega
    have := isq_lt (n := n / 2 ^ (2 * (blen n / 4))) (k := 5192296858534827628530496329220096) (by omega)
    omega
  · exact Nat.div_lt_self (by omega) (by omega)
end Go.Proofs.Ytmmlekgojblopaa
namespace Go.Proofs.Ytmmlekgojblopaa

def hv4 (a b c d : Int) : Int := a + b * 4294967296 + c * 18446744073709551616 + d * 79228162514264337593543950336
def hv5 (a b c d e : Int) : Int := hv4 a b c d + e * 340282366920938463463374607431768211456

/-- What the search for a half of the quotient keeps. -/
structure Guess (T N Vl U r2 Rl t left : Int) : Prop where
  t0 : 0 ≤ t
  l0 : 0 ≤ left
  sum : t * T + left = U
  above : U * 79228162514264337593543950336 + r2 * 18446744073709551616 + Rl < t * (T * 79228162514264337593543950336 + N * 18446744073709551616 + Vl) + (T * 79228162514264337593543950336 + N * 18446744073709551616 + Vl)
/-- The fixed numbers of that search. -/
structure GuessIn (T N Vl U r2 Rl : Int) : Prop where
  T0 : 2147483648 ≤ T
  T1 : T < 4294967296
  N0 : 0 ≤ N
  N1 : N < 4294967296
  V0 : 0 ≤ Vl
  V1 : Vl < 18446744073709551616
  r0 : 0 ≤ r2
  r1 : r2 < 4294967296
  R0 : 0 ≤ Rl
  R1 : Rl < 18446744073709551616
  U0 : 0 ≤ U
  U1 : U < T * 4294967296 + 4294967296
  less : U * 79228162514264337593543950336 + r2 * 18446744073709551616 + Rl < (T * 79228162514264337593543950336 + N * 18446744073709551616 + Vl) * 4294967296

theorem mul_out (t T N Vl : Int) : t * (T * 79228162514264337593543950336 + N * 18446744073709551616 + Vl) = t * T * 79228162514264337593543950336 + t * N * 18446744073709551616 + t * Vl := by
  rw [Int.mul_add, Int.mul_add, Int.mul_assoc, Int.mul_assoc]

theorem Guess.start {T N Vl U r2 Rl : Int} (g : GuessIn T N Vl U r2 Rl) : Guess T N Vl U r2 Rl (U / T) (U % T) := by
  obtain ⟨T0, T1, N0, N1, V0, V1, r0, r1, R0, R1, U0, U1, less⟩ := g
  have h1 := Int.mul_ediv_add_emod U T
  have h2 := Int.emod_lt_of_pos U (show 0 < T by omega)
  have h3 := Int.emod_nonneg U (show T ≠ 0 by omega)
  have h4 : 0 ≤ U / T := Int.ediv_nonneg U0 (by omega)
  rw [Int.mul_comm] at h1
  refine ⟨h4, h3, h1, ?_⟩
  generalize U / T = t at *
  generalize U % T = l at *
  have p1 : 0 ≤ t * N := Int.mul_nonneg h4 N0
  have p2 : 0 ≤ t * Vl := Int.mul_nonneg h4 V0
  rw [mul_out]
  omega
/-- One less: where the number is too great. -/
theorem Guess.down {T N Vl U r2 Rl t left : Int} (g : GuessIn T N Vl U r2 Rl) (h : Guess T N Vl U r2 Rl t left) (hc : 4294967296 ≤ t ∨ left * 4294967296 + r2 < t * N) : 1 ≤ t ∧ Guess T N Vl U r2 Rl (t - 1) (left + T) := by
  obtain ⟨T0, T1, N0, N1, V0, V1, r0, r1, R0, R1, U0, U1, less⟩ := g
  obtain ⟨t0, l0, hs, ha⟩ := h
  have p2 : 0 ≤ t * Vl := Int.mul_nonneg t0 V0
  have key : U * 79228162514264337593543950336 + r2 * 18446744073709551616 + Rl < t * (T * 79228162514264337593543950336 + N * 18446744073709551616 + Vl) := by
    rcases hc with hc | hc
    · have := Int.mul_le_mul_of_nonneg_right hc (show 0 ≤ T * 79228162514264337593543950336 + N * 18446744073709551616 + Vl by omega)
      omega
    · rw [mul_out]; omega
  have h1 : 1 ≤ t := by
    rcases (show t = 0 ∨ 1 ≤ t by omega) with h | h
    · rw [h, Int.zero_mul] at key; omega
    · exact h
  refine ⟨h1, ⟨by omega, by omega, ?_, ?_⟩⟩
  · rw [Int.sub_mul]; omega
  · rw [Int.sub_mul]; omega
/-- The end: the number is right, or one too great. -/
theorem Guess.stop {T N Vl U r2 Rl t left : Int} (g : GuessIn T N Vl U r2 Rl) (h : Guess T N Vl U r2 Rl t left) (h1 : t < 4294967296) (h2 : t * N ≤ left * 4294967296 + r2) :
    t * (T * 79228162514264337593543950336 + N * 18446744073709551616 + Vl) < U * 79228162514264337593543950336 + r2 * 18446744073709551616 + Rl + (T * 79228162514264337593543950336 + N * 18446744073709551616 + Vl) := by
  obtain ⟨T0, T1, N0, N1, V0, V1, r0, r1, R0, R1, U0, U1, less⟩ := g
  obtain ⟨t0, l0, hs, ha⟩ := h
  have p2 : t * Vl ≤ t * 18446744073709551616 := Int.mul_le_mul_of_nonneg_left (by omega) t0
  rw [mul_out]
  omega
theorem Guess.far {T N Vl U r2 Rl t left : Int} (g : GuessIn T N Vl U r2 Rl) (h : Guess T N Vl U r2 Rl t left) (h1 : 4294967296 ≤ left) : t < 4294967296 ∧ t * N ≤ left * 4294967296 + r2 := by
  obtain ⟨T0, T1, N0, N1, V0, V1, r0, r1, R0, R1, U0, U1, less⟩ := g
  obtain ⟨t0, l0, hs, ha⟩ := h
  have ht : t < 4294967296 := by
    rcases (show t < 4294967296 ∨ 4294967296 ≤ t by omega) with h | h
    · exact h
    · have := Int.mul_le_mul_of_nonneg_right h (show 0 ≤ T by omega)
      omega
  have p := Int.mul_le_mul_of_nonneg_left (show N ≤ 4294967296 by omega) t0
  exact ⟨ht, by omega⟩
end Go.Proofs.Ytmmlekgojblopaa
namespace Go.Proofs.Ytmmlekgojblopaa

theorem half_prod {a b : Int} (ha : Hf a) (hb : Hf b) : 0 ≤ a * b ∧ a * b ≤ 18446744065119617025 := by
  obtain ⟨t0, t1⟩ := ha; obtain ⟨v0, v1⟩ := hb
  have p1 : 0 ≤ a * b := Int.mul_nonneg t0 v0
  have p2 : a * b ≤ a * 4294967295 := Int.mul_le_mul_of_nonneg_left (by omega) t0
  exact ⟨p1, by omega⟩
/-- One row of the product: what four halves, and what is carried, come to. -/
theorem row_sum {f g0 g1 g2 g3 p0 p1 p2 p3 r0 r1 r2 r3 o1 o2 o3 o4 : Int} (e0 : f * g0 + p0 = r0 + 4294967296 * o1) (e1 : f * g1 + p1 + o1 = r1 + 4294967296 * o2) (e2 : f * g2 + p2 + o2 = r2 + 4294967296 * o3) (e3 : f * g3 + p3 + o3 = r3 + 4294967296 * o4) :
    hv4 r0 r1 r2 r3 + o4 * 340282366920938463463374607431768211456 = hv4 p0 p1 p2 p3 + f * hv4 g0 g1 g2 g3 := by
  have e : f * hv4 g0 g1 g2 g3 = f * g0 + f * g1 * 4294967296 + f * g2 * 18446744073709551616 + f * g3 * 79228162514264337593543950336 := by
    unfold hv4; rw [Int.mul_add, Int.mul_add, Int.mul_add, Int.mul_assoc, Int.mul_assoc, Int.mul_assoc]
  rw [e]; unfold hv4; omega
/-- Four rows. -/
theorem rows_sum {x0 x1 x2 x3 Y r0 r1 r2 r3 r4 r5 r6 r7 a1 a2 a3 a4 b1 b2 b3 b4 c1 c2 c3 c4 : Int} (h0 : hv4 r0 a1 a2 a3 + a4 * 340282366920938463463374607431768211456 = hv4 0 0 0 0 + x0 * Y) (h1 : hv4 r1 b1 b2 b3 + b4 * 340282366920938463463374607431768211456 = hv4 a1 a2 a3 a4 + x1 * Y)
    (h2 : hv4 r2 c1 c2 c3 + c4 * 340282366920938463463374607431768211456 = hv4 b1 b2 b3 b4 + x2 * Y) (h3 : hv4 r3 r4 r5 r6 + r7 * 340282366920938463463374607431768211456 = hv4 c1 c2 c3 c4 + x3 * Y) :
    hv4 r0 r1 r2 r3 + hv4 r4 r5 r6 r7 * 340282366920938463463374607431768211456 = hv4 x0 x1 x2 x3 * Y := by
  have e : hv4 x0 x1 x2 x3 * Y = x0 * Y + x1 * Y * 4294967296 + x2 * Y * 18446744073709551616 + x3 * Y * 79228162514264337593543950336 := by
    unfold hv4; rw [Int.add_mul, Int.add_mul, Int.add_mul, Int.mul_right_comm, Int.mul_right_comm x2, Int.mul_right_comm x3]
  rw [e]
  generalize x0 * Y = p0 at *; generalize x1 * Y = p1 at *; generalize x2 * Y = p2 at *; generalize x3 * Y = p3 at *
  unfold hv4 at *; omega
theorem mul_words {r0 r1 r2 r3 r4 r5 r6 r7 : Int} (h0 : Hf r0) (h1 : Hf r1) (h2 : Hf r2) (h3 : Hf r3) (h4 : Hf r4) (h5 : Hf r5) (h6 : Hf r6) (h7 : Hf r7) {n : Nat} (e : hv4 r0 r1 r2 r3 + hv4 r4 r5 r6 r7 * 340282366920938463463374607431768211456 = (n : Int)) :
    r7 * 4294967296 + r6 = wd n 3 ∧ r5 * 4294967296 + r4 = wd n 2 ∧ r3 * 4294967296 + r2 = wd n 1 ∧ r1 * 4294967296 + r0 = wd n 0 := by
  obtain ⟨_, _⟩ := h0; obtain ⟨_, _⟩ := h1; obtain ⟨_, _⟩ := h2; obtain ⟨_, _⟩ := h3; obtain ⟨_, _⟩ := h4; obtain ⟨_, _⟩ := h5; obtain ⟨_, _⟩ := h6; obtain ⟨_, _⟩ := h7
  unfold hv4 at e
  rw [wd3, wd2, wd1, wd0]
  refine ⟨?_, ?_, ?_, ?_⟩ <;> omega
end Go.Proofs.Ytmmlekgojblopaa
namespace Go.Proofs.Ytmmlekgojblopaa

/-- The upper word of a number with a point (with its sign), and the lower. -/
def fh (x : Int) : Int := x / 18446744073709551616
def fl (x : Int) : Int := x % 18446744073709551616
def Hd (x : Int) : Prop := -9223372036854775808 ≤ x ∧ x < 9223372036854775808
/-- A number; one that may be. -/
def Fx (x : Int) : Prop := -170141183460469231731687303715884105728 ≤ x ∧ x < 170141183460469231731687303715884105728
def My (x : Int) : Prop := -170141183460469231731687303715884105728 < x ∧ x < 170141183460469231731687303715884105728
def fx (h l : Int) : Int := h * 18446744073709551616 + l
theorem My.fx {x : Int} (h : My x) : Fx x := ⟨Int.le_of_lt h.1, h.2⟩
theorem fx_Fx {h l : Int} (a : Hd h) (b : Wd l) : Fx (fx h l) := by
  obtain ⟨_, _⟩ := a; obtain ⟨_, _⟩ := b; unfold Fx Proofs.Ytmmlekgojblopaa.fx; omega
theorem fh_fx {h l : Int} (b : Wd l) : fh (fx h l) = h := by
  obtain ⟨_, _⟩ := b; unfold fh Proofs.Ytmmlekgojblopaa.fx; omega
theorem fl_fx {h l : Int} (b : Wd l) : fl (fx h l) = l := by
  obtain ⟨_, _⟩ := b; unfold fl Proofs.Ytmmlekgojblopaa.fx; omega
theorem fx_fh (x : Int) : fx (fh x) (fl x) = x := by unfold fh fl Proofs.Ytmmlekgojblopaa.fx; omega
theorem fl_wd (x : Int) : Wd (fl x) := by unfold Wd fl; omega
theorem fh_hd {x : Int} (h : Fx x) : Hd (fh x) := by obtain ⟨_, _⟩ := h; unfold Hd fh; omega
theorem fx_ext {x y : Int} (h : fh x = fh y) (l : fl x = fl y) : x = y := by rw [← fx_fh x, ← fx_fh y, h, l]
theorem wrap_i64 (n : Int) : IntKind.i64.wrap n = (n + 9223372036854775808) % 18446744073709551616 - 9223372036854775808 := by
  have h : IntKind.i64.wrap n = if 9223372036854775808 ≤ n % 18446744073709551616 then n % 18446744073709551616 - 18446744073709551616 else n % 18446744073709551616 := by
    simp [IntKind.wrap, IntKind.bits, IntKind.signed]
  rw [h]
  split <;> omega
/-- The same bits, as a wide number. -/
def ub (x : Int) : Nat := (x % 340282366920938463463374607431768211456).toNat
theorem ub_lt (x : Int) : ub x < 340282366920938463463374607431768211456 := by unfold ub; omega
theorem ub_1 {x : Int} : IntKind.u64.wrap (fh x) = wd (ub x) 1 := by rw [wrap_u64, wd1]; unfold fh ub; omega
theorem ub_0 (x : Int) : fl x = wd (ub x) 0 := by rw [wd0]; unfold fl ub; omega
theorem ub_v2 (x : Int) : v2 (wd (ub x) 1) (wd (ub x) 0) = ub x := by rw [v2_wd]; have := ub_lt x; omega
/-- Back from a wide number's bits. -/
theorem of_ub {x : Int} {n : Nat} (h : Fx x) (e : (n : Int) % 340282366920938463463374607431768211456 = x % 340282366920938463463374607431768211456) : (wd n 1 + 9223372036854775808) % 18446744073709551616 - 9223372036854775808 = fh x ∧ wd n 0 = fl x := by
  obtain ⟨_, _⟩ := h
  rw [wd1, wd0]; unfold fh fl
  constructor <;> omega
/-- A word of ones, or nought. -/
def sw (s : Bool) : Int := if s then 18446744073709551615 else 0
theorem sw_wd (s : Bool) : Wd (sw s) := by cases s <;> exact ⟨by decide, by decide⟩
def sg (s : Bool) (n : Int) : Int := if s then -n else n
theorem sg_abs (x : Int) : sg (decide (x < 0)) (x.natAbs : Int) = x := by
  unfold sg; by_cases h : x < 0 <;> simp [h] <;> omega
theorem ofInt_inj {x y : Int} (hx : Wd x) (hy : Wd y) (h : BitVec.ofInt 64 x = BitVec.ofInt 64 y) : x = y := by
  obtain ⟨_, _⟩ := hx; obtain ⟨_, _⟩ := hy
  have := congrArg BitVec.toNat h
  simp only [BitVec.toNat_ofInt] at this
  omega
theorem xor_zero {x : Int} (h : Wd x) : bits .xor .u64 x 0 = x := by
  refine ofInt_inj (bits_wd _ _ _) h ?_
  rw [ofInt_xor]; simp
theorem xor_ones {x : Int} (h : Wd x) : bits .xor .u64 x 18446744073709551615 = 18446744073709551615 - x := by
  obtain ⟨h0, h1⟩ := h
  refine ofInt_inj (bits_wd _ _ _) ⟨by omega, by omega⟩ ?_
  rw [ofInt_xor]
  have e : BitVec.ofInt 64 18446744073709551615 = BitVec.allOnes 64 := by decide
  rw [e, BitVec.xor_allOnes]
  apply BitVec.eq_of_toNat_eq
  rw [BitVec.toNat_not, BitVec.toNat_ofInt, BitVec.toNat_ofInt]
  omega
theorem sw_xor (a b : Bool) : bits .xor .u64 (sw a) (sw b) = sw (a != b) := by
  cases a <;> cases b <;> decide
/-- A number, or nought and an error: what a sum, a product, a quotient is told as. -/
def ov (x : Int) : Int := if -170141183460469231731687303715884105728 < x ∧ x < 170141183460469231731687303715884105728 then x else 0
def oe (x : Int) : Int := if -170141183460469231731687303715884105728 < x ∧ x < 170141183460469231731687303715884105728 then 0 else 3
theorem ov_My (x : Int) : My (ov x) := by unfold ov; split; exact ‹_›; exact ⟨by decide, by decide⟩
theorem ov_in {x : Int} (h : My x) : ov x = x := if_pos h
theorem oe_in {x : Int} (h : My x) : oe x = 0 := if_pos h
theorem ov_out {x : Int} (h : ¬ My x) : ov x = 0 := if_neg h
theorem oe_out {x : Int} (h : ¬ My x) : oe x = 3 := if_neg h
/-- Products, quotients, halves, whole numbers: rounded by size, then the sign. -/
def mulr (x y : Int) : Int := sg (decide (x < 0) != decide (y < 0)) (((x.natAbs * y.natAbs + 9223372036854775808) / 18446744073709551616 : Nat) : Int)
def divr (x y : Int) : Int := sg (decide (x < 0) != decide (y < 0)) (((x.natAbs * 36893488147419103232 + y.natAbs) / (2 * y.natAbs) : Nat) : Int)
def halfr (x : Int) : Int := sg (decide (x < 0)) (((x.natAbs + 1) / 2 : Nat) : Int)
def rndr (x : Int) : Int := sg (decide (x < 0)) ((min ((x.natAbs + 9223372036854775808) / 18446744073709551616) 9223372036854775807 : Nat) : Int)
def intr (n : Int) : Int := (if n < -9223372036854775807 then -9223372036854775807 else n) * 18446744073709551616
end Go.Proofs.Ytmmlekgojblopaa
namespace Go.Proofs.Ytmmlekgojblopaa
open Go.RowKit

theorem bits_any (x : Int) (w : World) :
    Calls Try.prog 61 #[.agg #[.int .i64 (fh x), .int .u64 (fl x)]] w fun e w' => e = .returned (.agg #[.int .u64 (wd (ub x) 1), .int .u64 (wd (ub x) 0)]) ∧ Below w.heap.size w w' := by
  have E1 := Lib.hid (@ub_1 x)
  have E0 := Lib.hid (ub_0 x)
  go_enter Try.func61, Try.ntmps61
  go_wp2
  go_returns
  exact ⟨ret_agg2 E1.out E0.out, by go_grown⟩
theorem ret_fix {a b a' b' : Int} (h : a = a') (g : b = b') : Ending.returned (.agg #[.int .i64 a, .int .u64 b]) = .returned (.agg #[.int .i64 a', .int .u64 b']) := by rw [h, g]
theorem ofBits_any (x : Int) (n : Nat) (hx : Fx x) (e : (n : Int) % 340282366920938463463374607431768211456 = x % 340282366920938463463374607431768211456) (w : World) :
    Calls Try.prog 62 #[.agg #[.int .u64 (wd n 1), .int .u64 (wd n 0)]] w fun e w' => e = .returned (.agg #[.int .i64 (fh x), .int .u64 (fl x)]) ∧ Below w.heap.size w w' := by
  have E := Lib.hid (of_ub hx e)
  clear e
  go_enter Try.func62, Try.ntmps62
  go_wp2
  go_returns
  exact ⟨ret_fix (by unfold wrap64; exact E.out.1) E.out.2, by go_grown⟩
theorem sign_word {x : Int} (hx : Fx x) : IntKind.u64.wrap (fh x / 9223372036854775808) = sw (decide (x < 0)) := by
  obtain ⟨_, _⟩ := hx
  rw [wrap_u64]; unfold fh sw
  by_cases c : x < 0 <;> simp [c] <;> omega
theorem sign_core (h l S : Int) (E : IntKind.u64.wrap (h / 9223372036854775808) = S) (w : World) :
    Calls Try.prog 46 #[.agg #[.int .i64 h, .int .u64 l]] w fun e w' => e = .returned (.int .u64 S) ∧ Below w.heap.size w w' := by
  go_enter Try.func46, Try.ntmps46
  go_wp2_with fail
  go_returns
  exact ⟨rfl, by go_grown⟩
theorem sign_any (x : Int) (hx : Fx x) (w : World) :
    Calls Try.prog 46 #[.agg #[.int .i64 (fh x), .int .u64 (fl x)]] w fun e w' => e = .returned (.int .u64 (sw (decide (x < 0)))) ∧ Below w.heap.size w w' :=
  sign_core _ _ _ (sign_word hx) w
/-- Turned about in two's complement, or left. -/
def tn (s : Bool) (n : Nat) : Nat := if s then 340282366920938463463374607431768211456 - n else n
theorem tn_false (n : Nat) : tn false n = n := rfl
theorem tn_true (n : Nat) : tn true n = 340282366920938463463374607431768211456 - n := rfl
theorem sw_false : sw false = 0 := rfl
theorem sw_true : sw true = 18446744073709551615 := rfl
theorem v2_zero : v2 0 0 = 0 := rfl
theorem v2_ones : v2 18446744073709551615 18446744073709551615 = 340282366920938463463374607431768211455 := by unfold v2; omega
theorem turn_words {t1 t0 : Int} (h1 : Wd t1) (h0 : Wd t0) (s : Bool) (i : Nat) (hi : i = 0 ∨ i = 1) :
    wd (v2 (bits .xor .u64 t1 (sw s)) (bits .xor .u64 t0 (sw s)) + (340282366920938463463374607431768211456 - v2 (sw s) (sw s))) i = wd (tn s (v2 t1 t0)) i := by
  cases s with
  | false =>
    rw [sw_false, xor_zero h1, xor_zero h0, v2_zero, tn_false]
    rcases hi with rfl | rfl
    · rw [wd0, wd0]; omega
    · rw [wd1, wd1]; omega
  | true =>
    have k : v2 (18446744073709551615 - t1) (18446744073709551615 - t0) + (340282366920938463463374607431768211456 - 340282366920938463463374607431768211455) = 340282366920938463463374607431768211456 - v2 t1 t0 := by
      obtain ⟨_, _⟩ := h1; obtain ⟨_, _⟩ := h0
      unfold v2; omega
    rw [sw_true, xor_ones h1, xor_ones h0, v2_ones, k, tn_true]
theorem turn_any (t1 t0 : Int) (s : Bool) (h1 : Wd t1) (h0 : Wd t0) (w : World) :
    Calls Try.prog 65 #[.agg #[.int .u64 t1, .int .u64 t0], .int .u64 (sw s)] w fun e w' => e = .returned (.agg #[.int .u64 (wd (tn s (v2 t1 t0)) 1), .int .u64 (wd (tn s (v2 t1 t0)) 0)]) ∧ Below w.heap.size w w' := by
  have E1 := Lib.hid (turn_words h1 h0 s 1 (Or.inr rfl))
  have E0 := Lib.hid (turn_words h1 h0 s 0 (Or.inl rfl))
  have C := Lib.hid (sub_any (bits .xor .u64 t1 (sw s)) (bits .xor .u64 t0 (sw s)) (sw s) (sw s) (bits_wd _ _ _) (bits_wd _ _ _) (sw_wd s) (sw_wd s))
  generalize sw s = S at *
  go_enter Try.func65, Try.ntmps65
  go_wp2_with fail
  refine (C.out _).mono ?_
  rintro e w1 ⟨rfl, hb⟩
  obtain ⟨hcl, hfr⟩ := bcell hb
  have z1 : w.heap.size < w1.heap.size := by have := hb.size; simp at this; omega
  have z2 : w.heap.size + 1 < w1.heap.size := by have := hb.size; simp at this; omega
  have c0 : w1.cell? ⟨w.heap.size, 0, none⟩ = some (.int .u64 t1) := by rw [hcl _ _ (by simp <;> omega)]; simp [go_sem]
  have c1 : w1.cell? ⟨w.heap.size, 1, none⟩ = some (.int .u64 t0) := by rw [hcl _ _ (by simp <;> omega)]; simp [go_sem]
  have c2 : w1.cell? ⟨w.heap.size + 1, 0, none⟩ = some (.int .u64 0) := by rw [hcl _ _ (by simp <;> omega)]; simp [go_sem]
  have c3 : w1.cell? ⟨w.heap.size + 1, 1, none⟩ = some (.int .u64 0) := by rw [hcl _ _ (by simp <;> omega)]; simp [go_sem]
  have f0 : ∀ j, w1.frozen? ⟨w.heap.size, j, none⟩ = false := fun j => by rw [hfr _ _ (by simp <;> omega)]; first | (simp [go_sem]; done) | (simp [frozen?_alloc_cells, World.frozen?]; done)
  have f1 : ∀ j, w1.frozen? ⟨w.heap.size + 1, j, none⟩ = false := fun j => by rw [hfr _ _ (by simp <;> omega)]; first | (simp [go_sem]; done) | (simp [frozen?_alloc_cells, World.frozen?]; done)
  have HB : Hid (Below w.heap.size w w1) := bl_trans (by repeat (first | exact Below.refl _ _ | with_reducible refine bl_al ?_ _ | with_reducible apply Below.drew)) hb
  clear hb hcl hfr
  go_wp2_with fail
  refine bodyPost_ret (by simp [results, Try.results65, go_sem, *]; try rfl) rfl ?_
  refine ⟨ret_agg2 E1.out E0.out, ?_⟩
  exact Below.setCell (Below.setCell (Below.setCell (Below.setCell HB.out (by simp) _) (by simp) _) (by simp) _) (by simp) _
end Go.Proofs.Ytmmlekgojblopaa
namespace Go.Proofs.Ytmmlekgojblopaa
open Go.RowKit

theorem guessIn {r0 r1 r2 r3 r4 v0 v1 v2 v3 : Int} (a0 : Hf r0) (a1 : Hf r1) (a2 : Hf r2) (a3 : Hf r3) (a4 : Hf r4) (b0 : Hf v0) (b1 : Hf v1) (b2 : Hf v2) (b3 : Hf v3) (hT : 2147483648 ≤ v3) (hlt : hv4 r1 r2 r3 r4 < hv4 v0 v1 v2 v3) :
    GuessIn v3 v2 (v1 * 4294967296 + v0) (r4 * 4294967296 + r3) r2 (r1 * 4294967296 + r0) := by
  obtain ⟨_, _⟩ := a0; obtain ⟨_, _⟩ := a1; obtain ⟨_, _⟩ := a2; obtain ⟨_, _⟩ := a3; obtain ⟨_, _⟩ := a4
  obtain ⟨_, _⟩ := b0; obtain ⟨_, _⟩ := b1; obtain ⟨_, _⟩ := b2; obtain ⟨_, _⟩ := b3
  unfold hv4 at hlt
  refine ⟨?_, ?_, ?_, ?_, ?_, ?_, ?_, ?_, ?_, ?_, ?_, ?_, ?_⟩ <;> omega
def Guessed (R V : Int) (B : Nat) (w : World) (e : Ending) (w' : World) : Prop := ∃ t : Int, e = .returned (.int .u64 t) ∧ Hf t ∧ R < t * V + V ∧ t * V < R + V ∧ Below B w w'
theorem or_halves {l x : Int} (h0 : 0 ≤ l) (h1 : l < 4294967296) (hx : Hf x) : bits .or .u64 (IntKind.u64.wrap (l * 4294967296)) x = l * 4294967296 + x := by
  obtain ⟨_, _⟩ := hx
  rw [IntWalk.u64_in _ (by omega)]
  exact bits_join .u64 64 (by decide) (fun n h0 h1 => IntWalk.u64_in n (by omega)) 32 _ _ (by omega) (by omega) (by omega) (by omega) (by omega) (by omega)

theorem guess_end {r0 r1 r2 r3 r4 v0 v1 v2 v3 T L : Int} (G : GuessIn v3 v2 (v1 * 4294967296 + v0) (r4 * 4294967296 + r3) r2 (r1 * 4294967296 + r0))
    (hG : Guess v3 v2 (v1 * 4294967296 + v0) (r4 * 4294967296 + r3) r2 (r1 * 4294967296 + r0) T L) (h1 : T < 4294967296) (h2 : T * v2 ≤ L * 4294967296 + r2) :
    Hf T ∧ hv5 r0 r1 r2 r3 r4 < T * hv4 v0 v1 v2 v3 + hv4 v0 v1 v2 v3 ∧ T * hv4 v0 v1 v2 v3 < hv5 r0 r1 r2 r3 r4 + hv4 v0 v1 v2 v3 := by
  have a := Guess.stop G hG h1 h2
  have b := hG.above
  have e1 : hv4 v0 v1 v2 v3 = v3 * 79228162514264337593543950336 + v2 * 18446744073709551616 + (v1 * 4294967296 + v0) := by unfold hv4; omega
  have e2 : hv5 r0 r1 r2 r3 r4 = (r4 * 4294967296 + r3) * 79228162514264337593543950336 + r2 * 18446744073709551616 + (r1 * 4294967296 + r0) := by unfold hv5 hv4; omega
  rw [e1, e2]
  exact ⟨⟨hG.t0, h1⟩, b, a⟩
set_option maxHeartbeats 1000000 in
theorem guess_any (B o cap : Nat) (r0 r1 r2 r3 r4 v0 v1 v2 v3 : Int) (a0 : Hf r0) (a1 : Hf r1) (a2 : Hf r2) (a3 : Hf r3) (a4 : Hf r4) (b0 : Hf v0) (b1 : Hf v1) (b2 : Hf v2) (b3 : Hf v3) (hT : 2147483648 ≤ v3) (hlt : hv4 r1 r2 r3 r4 < hv4 v0 v1 v2 v3)
    (w : World) (hB : B < w.heap.size) (c2 : w.cell? ⟨B, o + 2, none⟩ = some (.int .u32 r2)) (c3 : w.cell? ⟨B, o + 3, none⟩ = some (.int .u32 r3)) (c4 : w.cell? ⟨B, o + 4, none⟩ = some (.int .u32 r4)) :
    Calls Try.prog 87 #[.slice (some ⟨B, o, none⟩) 5 cap, .agg #[.int .u32 v0, .int .u32 v1, .int .u32 v2, .int .u32 v3]] w (Guessed (hv5 r0 r1 r2 r3 r4) (hv4 v0 v1 v2 v3) w.heap.size w) := by
  have G := guessIn a0 a1 a2 a3 a4 b0 b1 b2 b3 hT hlt
  have hst := Guess.start G
  have k1 := a2.1; have k2 := a2.2; have k3 := a3.1; have k4 := a3.2; have k5 := a4.1; have k6 := a4.2
  have k7 := b2.1; have k8 := b2.2; have k9 := b3.1; have k10 := b3.2
  have hne : B ≠ w.heap.size := by omega
  have e1 : IntKind.u64.wrap v3 = v3 := IntWalk.u64_in _ (by omega)
  have e2 : IntKind.u64.wrap v2 = v2 := IntWalk.u64_in _ (by omega)
  have e6 : (v3 == 0) = false := by rw [beq_eq_false_iff_ne]; omega
  have e7 : ¬ v3 = 0 := by omega
  have q0 : 0 ≤ (r4 * 4294967296 + r3) / v3 := hst.t0
  have q1 : (r4 * 4294967296 + r3) / v3 ≤ r4 * 4294967296 + r3 := Int.ediv_le_self _ (by omega)
  have q2 : 0 ≤ (r4 * 4294967296 + r3) % v3 := hst.l0
  have q3 : (r4 * 4294967296 + r3) % v3 < v3 := Int.emod_lt_of_pos _ (by omega)
  have e3 : IntKind.u64.wrap ((r4 * 4294967296 + r3).tdiv v3) = (r4 * 4294967296 + r3) / v3 := IntWalk.u64_quo _ _ (by omega)
  have e4 : (r4 * 4294967296 + r3).tmod v3 = (r4 * 4294967296 + r3) % v3 := Int.tmod_eq_emod_of_nonneg (by omega)
  have e5 : IntKind.u64.wrap ((r4 * 4294967296 + r3) % v3) = (r4 * 4294967296 + r3) % v3 := IntWalk.u64_in _ (by omega)
  go_enter Try.func87, Try.ntmps87
  go_wp2
  go_region_held3 (fun w' => w'.cell? ⟨w.heap.size, 3, none⟩ = some (.int .u32 v3) ∧ w'.cell? ⟨w.heap.size, 2, none⟩ = some (.int .u32 v2)) (simp [*, go_sem]) (first | fail)
  rename_i hHeld; clear hHeld
  go_wp2
  go_region_held3 (fun w' => w'.cell? ⟨B, o + 3, none⟩ = some (.int .u32 r3) ∧ w'.cell? ⟨B, o + 4, none⟩ = some (.int .u32 r4)) (simp [*, go_sem])
    (first
      | (go_at_call 90; refine (join_any _ _ (by assumption) (by assumption) _).mono ?_; rintro e w' ⟨rfl, rfl⟩))
  rename_i hHeld; clear hHeld
  go_wp2
  go_region_held3 (fun w' => True) (trivial) (first | fail)
  rename_i hHeld; clear hHeld
  go_wp2
  clear e3 e4 e5
  go_loop [8, 9] (fun t l => ∃ T L : Int, t = .int .u64 T ∧ l = .int .u64 L ∧ T < 18446744073709551616 ∧ L < 4294967296 ∧ Guess v3 v2 (v1 * 4294967296 + v0) (r4 * 4294967296 + r3) r2 (r1 * 4294967296 + r0) T L) (fun t _ => (intOf t).toNat)
  case atStart => exact ⟨_, _, rfl, rfl, by omega, by omega, hst⟩
  case round =>
    obtain ⟨T, L, rfl, rfl, hT1, hL1, hG⟩ := hrel
    clear hst q0 q1 q2 q3
    have hT0 := hG.t0
    have hL0 := hG.l0
    have f2 := or_halves hL0 hL1 a2
    have f3 : bits .or .u64 (L * 4294967296) r2 = L * 4294967296 + r2 := by rw [IntWalk.u64_in _ (by omega)] at f2; exact f2
    have HE := Lib.hid (@guess_end r0 r1 r2 r3 r4 v0 v1 v2 v3 T L G hG)
    by_cases hA : 4294967296 ≤ T
    · have t1 : (T / 4294967296 != 0) = true := by rw [bne_iff_ne]; omega
      have hd := Guess.down G hG (Or.inl hA)
      have hd1 := hd.1
      by_cases hb : 4294967296 ≤ L + v3
      · have t2 : ((L + v3) / 4294967296 != 0) = true := by rw [bne_iff_ne]; omega
        have hf := Lib.hid (guess_end G hd.2 (Guess.far G hd.2 hb).1 (Guess.far G hd.2 hb).2)
        go_wp2
        go_returns
        exact ⟨_, rfl, hf.out.1, hf.out.2.1, hf.out.2.2, by go_grown⟩
      · have t2 : ((L + v3) / 4294967296 != 0) = false := by rw [bne_eq_false_iff_eq]; omega
        go_wp2
        go_round
        case rel => exact ⟨T - 1, L + v3, rfl, rfl, by omega, by omega, hd.2⟩
        case measure => simp [intOf]; omega
    · have t1 : (T / 4294967296 != 0) = false := by rw [bne_eq_false_iff_eq]; omega
      have p1 : 0 ≤ T * v2 := Int.mul_nonneg hT0 (by omega)
      have p2 : T * v2 ≤ T * 4294967296 := Int.mul_le_mul_of_nonneg_left (by omega) hT0
      have f1 : IntKind.u64.wrap (T * v2) = T * v2 := IntWalk.u64_in _ (by omega)
      by_cases hB2 : L * 4294967296 + r2 < T * v2
      · have hd := Guess.down G hG (Or.inr hB2)
        have hd1 := hd.1
        by_cases hb : 4294967296 ≤ L + v3
        · have t2 : ((L + v3) / 4294967296 != 0) = true := by rw [bne_iff_ne]; omega
          have hf := Lib.hid (guess_end G hd.2 (Guess.far G hd.2 hb).1 (Guess.far G hd.2 hb).2)
          go_wp2
          go_returns
          exact ⟨_, rfl, hf.out.1, hf.out.2.1, hf.out.2.2, by go_grown⟩
        · have t2 : ((L + v3) / 4294967296 != 0) = false := by rw [bne_eq_false_iff_eq]; omega
          go_wp2
          go_round
          case rel => exact ⟨T - 1, L + v3, rfl, rfl, by omega, by omega, hd.2⟩
          case measure => simp [intOf]; omega
      · have hf := Lib.hid (HE.out (by omega) (by omega))
        go_wp2
        go_returns
        exact ⟨_, rfl, hf.out.1, hf.out.2.1, hf.out.2.2, by go_grown⟩
end Go.Proofs.Ytmmlekgojblopaa
namespace Go.Proofs.Ytmmlekgojblopaa
open Go.RowKit

/-- Of what was there, w' has other cells than w in block B alone, from o on, n of them. -/
structure Wrote (B o n : Nat) (w w' : World) : Prop where
  os : w'.os = w.os
  tape : w'.tape = w.tape
  output : w'.output = w.output
  size : w.heap.size ≤ w'.heap.size
  block : ∀ k, k < w.heap.size → k ≠ B → w'.heap[k]? = w.heap[k]?
  cells : ∀ j, (j < o ∨ o + n ≤ j) → w'.cell? ⟨B, j, none⟩ = w.cell? ⟨B, j, none⟩
  frozen : ∀ j, w'.frozen? ⟨B, j, none⟩ = w.frozen? ⟨B, j, none⟩
theorem Wrote.refl (B o n : Nat) (w : World) : Wrote B o n w w := ⟨rfl, rfl, rfl, Nat.le_refl _, fun _ _ _ => rfl, fun _ _ => rfl, fun _ => rfl⟩
theorem Wrote.trans {B o n : Nat} {a b c : World} (h : Wrote B o n a b) (k : Wrote B o n b c) : Wrote B o n a c :=
  ⟨k.os.trans h.os, k.tape.trans h.tape, k.output.trans h.output, Nat.le_trans h.size k.size, fun i hi hB => (k.block i (Nat.lt_of_lt_of_le hi h.size) hB).trans (h.block i hi hB), fun j hj => (k.cells j hj).trans (h.cells j hj), fun j => (k.frozen j).trans (h.frozen j)⟩
theorem Wrote.of_below {B o n : Nat} {w w' : World} (hB : B < w.heap.size) (h : Below w.heap.size w w') : Wrote B o n w w' :=
  ⟨h.os, h.tape, h.output, h.size, fun k hk _ => h.block k hk, fun j _ => h.cell (p := ⟨B, j, none⟩) hB, fun j => h.frozen (p := ⟨B, j, none⟩) hB⟩
theorem Wrote.alloc {B o n : Nat} {a w : World} (h : Wrote B o n a w) (hB : B < a.heap.size) (x : Obj) : Wrote B o n a (w.alloc x) :=
  h.trans (Wrote.of_below (Nat.lt_of_lt_of_le hB h.size) (bl_al (Below.refl _ _) x))
theorem Wrote.drew {B o n : Nat} {a w : World} (h : Wrote B o n a w) : Wrote B o n a w.drew := ⟨h.os, h.tape, h.output, h.size, h.block, h.cells, h.frozen⟩
theorem Wrote.call {B o n : Nat} {a w w' : World} (h : Wrote B o n a w) (hB : B < a.heap.size) (g : Below w.heap.size w w') : Wrote B o n a w' :=
  h.trans (Wrote.of_below (Nat.lt_of_lt_of_le hB h.size) g)
theorem Wrote.setCell {B o n j : Nat} {a w : World} (h : Wrote B o n a w) (h1 : o ≤ j) (h2 : j < o + n) (x : Value) : Wrote B o n a (w.setCell ⟨B, j, none⟩ x) := by
  refine h.trans ⟨rfl, rfl, rfl, by simp [World.setCell], fun k _ hk => Below.heap_setCell _ _ _ _ hk, fun i hi => ?_, fun i => World.frozen?_setCell _ _ _ _⟩
  refine World.cell?_setCell_other _ _ _ _ ?_
  intro e
  simp only [Addr.mk.injEq] at e
  omega
theorem Wrote.below {B o n B0 : Nat} {w w' : World} (h : Wrote B o n w w') (hB : B0 ≤ B) (hs : B0 ≤ w.heap.size) : Below B0 w w' :=
  ⟨h.os, h.tape, h.output, h.size, fun k hk => h.block k (by omega) (by omega)⟩
theorem Wrote.wide {B o n o' n' : Nat} {w w' : World} (h : Wrote B o n w w') (h1 : o' ≤ o) (h2 : o + n ≤ o' + n') : Wrote B o' n' w w' :=
  ⟨h.os, h.tape, h.output, h.size, h.block, fun j hj => h.cells j (by omega), h.frozen⟩

def Split (x : Int) (w : World) (e : Ending) (w' : World) : Prop := ∃ lo hi : Int, e = .returned (.tuple #[.int .u32 lo, .int .u32 hi]) ∧ Hf lo ∧ Hf hi ∧ Hid (x = lo + 4294967296 * hi) ∧ w = w'
theorem split_ex (x : Int) (hx : Wd x) (w : World) : Calls Try.prog 80 #[.int .u64 x] w (Split x w) := by
  have h := split_any x hx w
  obtain ⟨h0, h1⟩ := hx
  exact h.mono fun e w' ⟨he, hw⟩ => ⟨_, _, he, ⟨by omega, by omega⟩, ⟨by omega, by omega⟩, by show _ = _; omega, hw⟩
def Subbed (a b c : Int) (w : World) (e : Ending) (w' : World) : Prop := ∃ y u : Int, e = .returned (.tuple #[.int .u32 y, .int .u32 u]) ∧ Hf y ∧ 0 ≤ u ∧ u ≤ 1 ∧ Hid (a - b - c = y - 4294967296 * u) ∧ w = w'
theorem subHalf_ex (a b c : Int) (ha : Hf a) (hb : Hf b) (h0 : 0 ≤ c) (h1 : c ≤ 1) (w : World) : Calls Try.prog 93 #[.int .u32 a, .int .u32 b, .int .u32 c] w (Subbed a b c w) := by
  have h := subHalf_any a b c ha hb h0 h1 w
  obtain ⟨a0, a1⟩ := ha; obtain ⟨b0, b1⟩ := hb
  exact h.mono fun e w' ⟨he, hw⟩ => ⟨_, _, he, ⟨by omega, by omega⟩, by omega, by omega, by show _ = _; omega, hw⟩
end Go.Proofs.Ytmmlekgojblopaa
namespace Go.Proofs.Ytmmlekgojblopaa
open Go.RowKit

theorem cmp_any (a3 a2 a1 a0 b3 b2 b1 b0 : Int) (ha3 : Wd a3) (ha2 : Wd a2) (ha1 : Wd a1) (ha0 : Wd a0) (hb3 : Wd b3) (hb2 : Wd b2) (hb1 : Wd b1) (hb0 : Wd b0) (w : World) :
    Calls Try.prog 44 #[.agg #[.int .u64 a3, .int .u64 a2, .int .u64 a1, .int .u64 a0], .agg #[.int .u64 b3, .int .u64 b2, .int .u64 b1, .int .u64 b0]] w fun e w' =>
      e = .returned (.int .i64 (icmp ((v4 a3 a2 a1 a0 : Nat) : Int) ((v4 b3 b2 b1 b0 : Nat) : Int))) ∧ Below w.heap.size w w' := by
  have E := Lib.hid (icmp_four (a3 := a3) (a2 := a2) (b3 := b3) (b2 := b2) ha1 ha0 hb1 hb0)
  go_enter Try.func44, Try.ntmps44
  go_wp2
  go_region_held3 (fun w' => w'.cell? ⟨w.heap.size, 0, none⟩ = some (.int .u64 a3) ∧ w'.cell? ⟨w.heap.size, 1, none⟩ = some (.int .u64 a2) ∧ w'.cell? ⟨w.heap.size, 2, none⟩ = some (.int .u64 a1) ∧ w'.cell? ⟨w.heap.size, 3, none⟩ = some (.int .u64 a0) ∧
      w'.cell? ⟨w.heap.size + 1, 0, none⟩ = some (.int .u64 b3) ∧ w'.cell? ⟨w.heap.size + 1, 1, none⟩ = some (.int .u64 b2) ∧ w'.cell? ⟨w.heap.size + 1, 2, none⟩ = some (.int .u64 b1) ∧ w'.cell? ⟨w.heap.size + 1, 3, none⟩ = some (.int .u64 b0)) (simp [*, go_sem, World.cell?_alloc_past])
    (first
      | (go_at_call 75; refine (cmpTwo_any _ _ _ _ (by assumption) (by assumption) (by assumption) (by assumption) _).mono ?_; rintro e w' ⟨rfl, hb⟩; obtain ⟨hcl, hfr⟩ := bcell hb; have hz2 : w.heap.size + 1 < w'.heap.size := (by have hz := hb.size; first | (simp at hz; omega) | omega); have hz1 : w.heap.size < w'.heap.size := (by omega); have HB : Hid (Below w.heap.size w w') := (bl_trans (by repeat (first | exact Below.refl _ _ | exact Hid.out (by assumption) | with_reducible refine bl_al ?_ _ | with_reducible apply Below.drew)) hb); clear hb)
      | (go_at_call 74; refine (or_any _ _ _ _ (by simp [go_sem]; rfl) (by simp [go_sem]; rfl)).mono ?_; rintro e w' ⟨rfl, rfl⟩))
  rename_i hHeld
  clear hHeld
  go_wp2
  go_returns
  exact ⟨ret_int E.out, by repeat (first | exact Below.refl _ _ | exact Hid.out (by assumption) | with_reducible refine bl_al ?_ _ | with_reducible apply Below.drew)⟩
end Go.Proofs.Ytmmlekgojblopaa
namespace Go.Proofs.Ytmmlekgojblopaa

/-! One bit. -/
def bt (N i : Nat) : Nat := N / 2 ^ i % 2
theorem bt_le (N i : Nat) : bt N i ≤ 1 := by unfold bt; omega
theorem half_step (N i : Nat) : N / 2 ^ i = 2 * (N / 2 ^ (i + 1)) + bt N i := by
  unfold bt
  rw [Nat.pow_succ, ← Nat.div_div_eq_div_mul]
  omega
theorem mod_div_two (x r : Nat) (h : r < 64) : x % 18446744073709551616 / 2 ^ r % 2 = x / 2 ^ r % 2 := by
  rw [show (18446744073709551616 : Nat) = 2 ^ r * 2 ^ (64 - r) by rw [← Nat.pow_add, show r + (64 - r) = 64 by omega], Nat.mod_mul_right_div_self]
  exact Nat.mod_mod_of_dvd _ (Nat.dvd_trans ⟨2 ^ (63 - r), by rw [← Nat.pow_succ']; congr 1; omega⟩ (Nat.dvd_refl _))
theorem word_bit (N q r : Nat) (h : r < 64) : N / 2 ^ (64 * q) % 18446744073709551616 / 2 ^ r % 2 = bt N (64 * q + r) := by
  rw [mod_div_two _ _ h, Nat.div_div_eq_div_mul, ← Nat.pow_add]; rfl
theorem and_one (x : Int) (h : Wd x) : bits .and .u64 x 1 = x % 2 := bits_mask .u64 64 (by decide) (fun n h0 h1 => IntWalk.u64_in n (by omega)) 1 (by decide) x h.1 h.2
theorem bit_word (N q r : Nat) (h : r < 64) : bits .and .u64 (wd N q / 2 ^ r) 1 = ((bt N (64 * q + r) : Nat) : Int) := by
  rw [and_one _ (wd_div (wd_wd _ _) _), wd_eq, cast_div, ← word_bit N q r h]
  omega

/-! The division: after the bits from m on have come, the rest, and the quotient's bits in their places. -/
def rq (N d m : Nat) : Nat := N / 2 ^ m % d
def qq (N d m : Nat) : Nat := N / 2 ^ m / d * 2 ^ m
theorem rq_top {N d m : Nat} (h : N < 2 ^ m) : rq N d m = 0 := by unfold rq; rw [Nat.div_eq_of_lt h, Nat.zero_mod]
theorem qq_top {N d m : Nat} (h : N < 2 ^ m) : qq N d m = 0 := by unfold qq; rw [Nat.div_eq_of_lt h, Nat.zero_div, Nat.zero_mul]
theorem rq_end (N d : Nat) : rq N d 0 = N % d := by simp [rq]
theorem qq_end (N d : Nat) : qq N d 0 = N / d := by simp [qq]
theorem rq_lt {N d m : Nat} (h : d ≠ 0) : rq N d m < d := Nat.mod_lt _ (by omega)
theorem dq_step {M d b : Nat} (hd : d ≠ 0) (hb : b ≤ 1) : (2 * (M % d) + b < d ∧ (2 * M + b) % d = 2 * (M % d) + b ∧ (2 * M + b) / d = 2 * (M / d)) ∨
    (d ≤ 2 * (M % d) + b ∧ (2 * M + b) % d = 2 * (M % d) + b - d ∧ (2 * M + b) / d = 2 * (M / d) + 1) := by
  have h1 := Nat.div_add_mod M d
  have h2 := Nat.mod_lt M (show d > 0 by omega)
  generalize M / d = Q at *
  generalize M % d = R at *
  have e : 2 * M + b = d * (2 * Q) + (2 * R + b) := by
    rw [← h1, Nat.mul_add, ← Nat.mul_assoc, Nat.mul_comm 2 d, Nat.mul_assoc]; omega
  rcases Nat.lt_or_ge (2 * R + b) d with h | h
  · left
    refine ⟨h, ?_, ?_⟩
    · rw [e, Nat.mul_add_mod_self_left, Nat.mod_eq_of_lt h]
    · rw [e, Nat.mul_add_div (by omega), Nat.div_eq_of_lt h, Nat.add_zero]
  · right
    have e2 : 2 * M + b = d * (2 * Q + 1) + (2 * R + b - d) := by rw [e, Nat.mul_add, Nat.mul_one]; omega
    refine ⟨h, ?_, ?_⟩
    · rw [e2, Nat.mul_add_mod_self_left, Nat.mod_eq_of_lt (by omega)]
    · rw [e2, Nat.mul_add_div (by omega), Nat.div_eq_of_lt (by omega), Nat.add_zero]
theorem div_step {N d i : Nat} (hd : d ≠ 0) : (2 * rq N d (i + 1) + bt N i < d ∧ rq N d i = 2 * rq N d (i + 1) + bt N i ∧ qq N d i = qq N d (i + 1)) ∨
    (d ≤ 2 * rq N d (i + 1) + bt N i ∧ rq N d i = 2 * rq N d (i + 1) + bt N i - d ∧ qq N d i = qq N d (i + 1) + 2 ^ i) := by
  unfold rq qq
  rw [half_step N i, Nat.pow_succ]
  rcases dq_step (M := N / (2 ^ i * 2)) hd (bt_le N i) with ⟨h, e1, e2⟩ | ⟨h, e1, e2⟩
  · left
    refine ⟨h, e1, ?_⟩
    rw [e2, Nat.mul_comm 2, Nat.mul_assoc, Nat.mul_comm 2]
  · right
    refine ⟨h, e1, ?_⟩
    rw [e2, Nat.add_mul, Nat.one_mul, Nat.mul_comm 2, Nat.mul_assoc, Nat.mul_comm 2]
/-- The rest, doubled, and a bit: its words, and what is lost. -/
theorem two_words {R b : Nat} (hR : R < 340282366920938463463374607431768211456) (hb : b ≤ 1) :
    bits .or .u64 (IntKind.u64.wrap (wd R 1 * 2)) (wd R 0 / 9223372036854775808) = wd (2 * R + b) 1 ∧
    bits .or .u64 (IntKind.u64.wrap (wd R 0 * 2)) (b : Int) = wd (2 * R + b) 0 ∧
    wd R 1 / 9223372036854775808 = ((if 340282366920938463463374607431768211456 ≤ 2 * R + b then 1 else 0 : Nat) : Int) := by
  have j := or_join (x := wd R 1) (y := wd R 0) (r := 1) (by omega) (wd_wd _ _) (wd_wd _ _)
  rw [show ((2 : Int) ^ 1) = 2 by decide, show ((2 : Int) ^ (64 - 1)) = 9223372036854775808 by decide] at j
  refine ⟨?_, ?_, ?_⟩
  · rw [j, wd1, wd0, wd1]; omega
  · rw [wrap_u64, wd0]
    have h := or_nat (P := R % 18446744073709551616 * 2 % 18446744073709551616) (Q := b) (r := 1) (by omega) (by omega) (by rw [Nat.pow_one]; omega) (by rw [Nat.pow_one]; omega) (by omega)
    rw [show ((R % 18446744073709551616 : Nat) : Int) * 2 % 18446744073709551616 = ((R % 18446744073709551616 * 2 % 18446744073709551616 : Nat) : Int) by omega, h, wd0]
    omega
  · rw [wd1]; split <;> omega
theorem sub_words {R d : Nat} (hd : d < 340282366920938463463374607431768211456) (_h1 : d ≤ R) (_h2 : R < 2 * 340282366920938463463374607431768211456) (_h3 : R - d < 340282366920938463463374607431768211456) (i : Nat) (hi : i < 2) :
    wd (R % 340282366920938463463374607431768211456 + (340282366920938463463374607431768211456 - d)) i = wd (R - d) i := by
  rcases (show i = 0 ∨ i = 1 by omega) with rfl | rfl
  · rw [wd0, wd0]; omega
  · rw [wd1, wd1]; omega
/-- A word of the quotient, where a bit more comes, and where not. -/
theorem pow_word (i : Nat) (h : i < 64) : (2 : Nat) ^ i < 18446744073709551616 := by
  rw [← pow64]; exact Nat.pow_lt_pow_right (by decide) h
theorem qq_dvd (N d m : Nat) : ∃ k, qq N d m = k * 2 ^ m := ⟨_, rfl⟩
theorem word_more {Q m q r : Nat} (hr : r < 64) (hm : m = 64 * q + r) (hQ : ∃ k, Q = k * 2 ^ (m + 1)) :
    bits .or .u64 (wd Q q) (((2 ^ r : Nat)) : Int) = wd (Q + 2 ^ m) q ∧ ∀ j, j ≠ q → wd (Q + 2 ^ m) j = wd Q j := by
  obtain ⟨k, rfl⟩ := hQ
  subst hm
  have p : ∀ a b : Nat, 2 ^ (a + b) = 2 ^ a * 2 ^ b := fun a b => Nat.pow_add 2 a b
  have hp := Nat.two_pow_pos (64 * q)
  have e1 : (k * 2 ^ (64 * q + r + 1)) = 2 ^ (64 * q) * (k * 2 ^ (r + 1)) := by
    rw [Nat.add_assoc, p]; rw [Nat.mul_comm k, Nat.mul_assoc, Nat.mul_comm _ k]
  have e2 : k * 2 ^ (64 * q + r + 1) + 2 ^ (64 * q + r) = 2 ^ (64 * q) * (k * 2 ^ (r + 1) + 2 ^ r) := by
    rw [e1, p (64 * q) r, Nat.mul_add]
  have er : (2 : Nat) ^ (r + 1) = 2 ^ r * 2 := Nat.pow_succ 2 r
  have hw := pow_word r hr
  constructor
  · rw [wd_eq, wd_eq, e2, e1, Nat.mul_div_cancel_left _ hp, Nat.mul_div_cancel_left _ hp]
    have hs : (18446744073709551616 : Nat) = 2 ^ (r + 1) * 2 ^ (63 - r) := by rw [← Nat.pow_add, show r + 1 + (63 - r) = 64 by omega]
    have hm2 : k * 2 ^ (r + 1) % 18446744073709551616 = 2 ^ (r + 1) * (k % 2 ^ (63 - r)) := by rw [hs, Nat.mul_comm k, Nat.mul_mod_mul_left]
    have hle : 2 ^ (r + 1) * (k % 2 ^ (63 - r)) + 2 ^ (r + 1) ≤ 18446744073709551616 := by
      have := Nat.mul_le_mul_left (2 ^ (r + 1)) (show k % 2 ^ (63 - r) + 1 ≤ 2 ^ (63 - r) from Nat.mod_lt _ (Nat.two_pow_pos _))
      rw [Nat.mul_add, Nat.mul_one, ← hs] at this
      exact this
    rw [or_nat (r := r + 1) (by omega) (Nat.mod_lt _ (by decide)) (by rw [hm2, Nat.mul_mod_right]) (by rw [er]; have := Nat.two_pow_pos r; omega) hw]
    have hx : 2 ^ r < 2 ^ (r + 1) := by rw [er]; have := Nat.two_pow_pos r; omega
    have hg : k * 2 ^ (r + 1) % 18446744073709551616 + 2 ^ r = (k * 2 ^ (r + 1) + 2 ^ r) % 18446744073709551616 := by
      clear e1 e2 hs er p
      generalize 2 ^ (r + 1) * (k % 2 ^ (63 - r)) = B at *
      generalize k * 2 ^ (r + 1) = A at *
      generalize 2 ^ (r + 1) = E at *
      generalize 2 ^ r = P at *
      omega
    rw [hg]
  · intro j hj
    rw [wd_eq, wd_eq]
    congr 1
    rcases Nat.lt_or_ge j q with h | h
    · have e3 : (64 * q) = 64 * j + (64 + 64 * (q - j - 1)) := by omega
      rw [e2, e1, e3, p, p, Nat.mul_assoc, Nat.mul_assoc, Nat.mul_assoc, Nat.mul_assoc, Nat.mul_div_cancel_left _ (Nat.two_pow_pos _), Nat.mul_div_cancel_left _ (Nat.two_pow_pos _), pow64, Nat.mul_mod_right, Nat.mul_mod_right]
    · have e3 : 64 * j = 64 * q + (r + 1) + (64 * j - 64 * q - (r + 1)) := by omega
      have e4 : 2 ^ (64 * j) = 2 ^ (64 * q) * 2 ^ (r + 1) * 2 ^ (64 * j - 64 * q - (r + 1)) := by rw [← p, ← p, ← e3]
      have hl : 2 ^ r < 2 ^ (r + 1) := by rw [er]; have := Nat.two_pow_pos r; omega
      rw [e2, e1, e4, ← Nat.div_div_eq_div_mul, ← Nat.div_div_eq_div_mul, ← Nat.div_div_eq_div_mul, ← Nat.div_div_eq_div_mul, Nat.mul_div_cancel_left _ hp, Nat.mul_div_cancel_left _ hp, Nat.mul_div_cancel _ (Nat.two_pow_pos _),
        Nat.mul_comm k, Nat.mul_add_div (Nat.two_pow_pos _), Nat.div_eq_of_lt hl, Nat.add_zero]

/-! The length: where no bit from m on is set. -/
theorem len_hit {N i : Nat} (h : N < 2 ^ (i + 1)) (b : bt N i = 1) : blen N = i + 1 := by
  refine blen_of h (Or.inr ?_)
  unfold bt at b
  have hp := Nat.two_pow_pos i
  have := Nat.div_mul_le_self N (2 ^ i)
  rcases Nat.eq_zero_or_pos (N / 2 ^ i) with e | e
  · rw [e] at b; omega
  · have := Nat.le_mul_of_pos_left (2 ^ i) e
    simp; omega
theorem len_miss {N i : Nat} (h : N < 2 ^ (i + 1)) (b : bt N i ≠ 1) : N < 2 ^ i := by
  have hp := Nat.two_pow_pos i
  rw [Nat.pow_succ] at h
  have h2 : N / 2 ^ i < 2 := by rw [Nat.div_lt_iff_lt_mul hp]; omega
  unfold bt at b
  have h3 : N / 2 ^ i = 0 := by clear h; generalize N / 2 ^ i = x at *; omega
  rcases Nat.lt_or_ge N (2 ^ i) with k | k
  · exact k
  · have := (Nat.one_le_div_iff hp).2 k; omega

/-! The root: its bits from m on. -/
def rt (N m : Nat) : Nat := isq N / 2 ^ m * 2 ^ m
theorem rt_end (N : Nat) : rt N 0 = isq N := by simp [rt]
theorem rt_top {N m : Nat} (h : isq N < 2 ^ m) : rt N m = 0 := by unfold rt; rw [Nat.div_eq_of_lt h, Nat.zero_mul]
theorem rt_dvd (N m : Nat) : ∃ k, rt N m = k * 2 ^ m := ⟨_, rfl⟩
theorem rt_le (N m : Nat) : rt N m ≤ isq N := Nat.div_mul_le_self _ _
theorem sq_le_iff (N t : Nat) : t * t ≤ N ↔ t ≤ isq N := by
  have h := isq_spec N
  constructor
  · intro k
    rcases Nat.lt_or_ge (isq N) t with g | g
    · have := Nat.mul_le_mul (show isq N + 1 ≤ t from g) (show isq N + 1 ≤ t from g); omega
    · exact g
  · intro k
    have := Nat.mul_le_mul k k
    omega
theorem rt_step (N i : Nat) : ((rt N (i + 1) + 2 ^ i) * (rt N (i + 1) + 2 ^ i) ≤ N ∧ rt N i = rt N (i + 1) + 2 ^ i) ∨ (N < (rt N (i + 1) + 2 ^ i) * (rt N (i + 1) + 2 ^ i) ∧ rt N i = rt N (i + 1)) := by
  have hs := half_step (isq N) i
  have hb := bt_le (isq N) i
  have hp := Nat.two_pow_pos i
  have e1 : rt N i = rt N (i + 1) + bt (isq N) i * 2 ^ i := by
    unfold rt; rw [hs, Nat.pow_succ, Nat.add_mul, Nat.mul_comm 2, Nat.mul_assoc, Nat.mul_comm 2]
  have hm := Nat.div_add_mod (isq N) (2 ^ i)
  have hl := Nat.mod_lt (isq N) hp
  have e2 : rt N i + isq N % 2 ^ i = isq N := by unfold rt; rw [Nat.mul_comm]; exact hm
  rcases (show bt (isq N) i = 0 ∨ bt (isq N) i = 1 by omega) with b | b
  · right
    rw [b, Nat.zero_mul, Nat.add_zero] at e1
    refine ⟨?_, e1⟩
    rcases Nat.lt_or_ge N ((rt N (i + 1) + 2 ^ i) * (rt N (i + 1) + 2 ^ i)) with g | g
    · exact g
    · have := (sq_le_iff _ _).1 g; omega
  · left
    rw [b, Nat.one_mul] at e1
    refine ⟨(sq_le_iff _ _).2 ?_, e1⟩
    omega
end Go.Proofs.Ytmmlekgojblopaa
namespace Go.Proofs.Ytmmlekgojblopaa

theorem hv4_two {h l : Int} (hh : Wd h) (hl : Wd l) : hv4 (l % 4294967296) (l / 4294967296) (h % 4294967296) (h / 4294967296) = ((v2 h l : Nat) : Int) := by
  obtain ⟨_, _⟩ := hh; obtain ⟨_, _⟩ := hl
  unfold hv4 v2; omega
theorem hf_lo {x : Int} (h : Wd x) : Hf (x % 4294967296) := by obtain ⟨_, _⟩ := h; exact ⟨by omega, by omega⟩
theorem hf_hi {x : Int} (h : Wd x) : Hf (x / 4294967296) := by obtain ⟨_, _⟩ := h; exact ⟨by omega, by omega⟩
/-- The divisor, its top bit set. -/
theorem top_set {n : Nat} (h0 : n ≠ 0) (h1 : n < 340282366920938463463374607431768211456) : n * 2 ^ (128 - blen n) < 340282366920938463463374607431768211456 ∧ 170141183460469231731687303715884105728 ≤ n * 2 ^ (128 - blen n) := by
  have a := blen_lt n
  have b := blen_ge h0
  have c : blen n ≤ 128 := blen_le (by rw [show (2 : Nat) ^ 128 = 340282366920938463463374607431768211456 by decide]; exact h1)
  have hp := Nat.two_pow_pos (128 - blen n)
  constructor
  · have := Nat.mul_lt_mul_of_pos_right a hp
    rw [← Nat.pow_add, show blen n + (128 - blen n) = 128 by omega] at this
    exact this
  · have := Nat.mul_le_mul_right (2 ^ (128 - blen n)) b.2
    rw [← Nat.pow_add, show blen n - 1 + (128 - blen n) = 127 by omega] at this
    exact this
theorem v2_small {n : Nat} (h : n < 340282366920938463463374607431768211456) : v2 (wd n 1) (wd n 0) = n := by rw [v2_wd]; omega
/-- What is divided, of twelve halves. -/
theorem twelve_sum {A n : Nat} (hA : A < 115792089237316195423570985008687907853269984665640564039457584007913129639936) (hn : n ≤ 128) :
    ((v4 (wd (A * 2 ^ n) 3) (wd (A * 2 ^ n) 2) (wd (A * 2 ^ n) 1) (wd (A * 2 ^ n) 0) : Nat) : Int) + ((v2 (wd (A / 2 ^ (256 - n)) 1) (wd (A / 2 ^ (256 - n)) 0) : Nat) : Int) * 115792089237316195423570985008687907853269984665640564039457584007913129639936 = ((A * 2 ^ n : Nat) : Int) := by
  have hs : (2 : Nat) ^ (256 - n) * 2 ^ n = 115792089237316195423570985008687907853269984665640564039457584007913129639936 := by
    rw [← Nat.pow_add, show 256 - n + n = 256 by omega]
  have hp := Nat.two_pow_pos n
  have hd : A / 2 ^ (256 - n) = A * 2 ^ n / 115792089237316195423570985008687907853269984665640564039457584007913129639936 := by
    rw [← hs, Nat.mul_div_mul_right _ _ hp]
  have hl : A / 2 ^ (256 - n) < 340282366920938463463374607431768211456 := by
    rw [Nat.div_lt_iff_lt_mul (Nat.two_pow_pos _)]
    refine Nat.lt_of_lt_of_le hA ?_
    rw [show (115792089237316195423570985008687907853269984665640564039457584007913129639936 : Nat) = 340282366920938463463374607431768211456 * 2 ^ 128 by decide]
    exact Nat.mul_le_mul_left _ (Nat.pow_le_pow_right (by decide) (by omega))
  rw [v4_wd, v2_wd, Nat.mod_eq_of_lt hl, hd]
  generalize A * 2 ^ n = N
  omega
/-- The upper halves of what is divided are below the divisor. -/
theorem upper_less {A b n : Nat} (hA : A < 115792089237316195423570985008687907853269984665640564039457584007913129639936) (hn : n ≤ 127) (hV : 170141183460469231731687303715884105728 ≤ b * 2 ^ n) :
    A / 2 ^ (256 - n) < b * 2 ^ n := by
  refine Nat.lt_of_lt_of_le ?_ hV
  rw [Nat.div_lt_iff_lt_mul (Nat.two_pow_pos _)]
  refine Nat.lt_of_lt_of_le hA ?_
  rw [show (115792089237316195423570985008687907853269984665640564039457584007913129639936 : Nat) = 170141183460469231731687303715884105728 * 2 ^ 129 by decide]
  exact Nat.mul_le_mul_left _ (Nat.pow_le_pow_right (by decide) (by omega))

/-- One step: the rest behind it. -/
theorem step_of {x y0 y1 y2 y3 y4 p0 p1 p2 p3 q V : Int} (h0 : Hf y0) (h1 : Hf y1) (h2 : Hf y2) (h3 : Hf y3) (h4 : Hf y4) (hV : V < 340282366920938463463374607431768211456)
    (e : hv5 y0 y1 y2 y3 y4 = hv5 x p0 p1 p2 p3 - q * V) (l : hv5 y0 y1 y2 y3 y4 < V) : y4 = 0 ∧ hv4 y0 y1 y2 y3 = x + 4294967296 * hv4 p0 p1 p2 p3 - q * V ∧ hv4 y0 y1 y2 y3 < V := by
  obtain ⟨_, _⟩ := h0; obtain ⟨_, _⟩ := h1; obtain ⟨_, _⟩ := h2; obtain ⟨_, _⟩ := h3; obtain ⟨_, _⟩ := h4
  unfold hv5 hv4 at *
  have : y4 = 0 := by omega
  subst this
  exact ⟨rfl, by omega, by omega⟩
def quo (q0 q1 q2 q3 q4 q5 q6 q7 : Int) : Int := hv4 q0 q1 q2 q3 + hv4 q4 q5 q6 q7 * 340282366920938463463374607431768211456
/-- All steps together. -/
theorem steps_sum {x0 x1 x2 x3 x4 x5 x6 x7 x8 x9 x10 x11 V q0 q1 q2 q3 q4 q5 q6 q7 r0 r1 r2 r3 r4 r5 r6 r7 : Int}
    (e7 : r7 = x7 + 4294967296 * hv4 x8 x9 x10 x11 - q7 * V) (e6 : r6 = x6 + 4294967296 * r7 - q6 * V) (e5 : r5 = x5 + 4294967296 * r6 - q5 * V) (e4 : r4 = x4 + 4294967296 * r5 - q4 * V)
    (e3 : r3 = x3 + 4294967296 * r4 - q3 * V) (e2 : r2 = x2 + 4294967296 * r3 - q2 * V) (e1 : r1 = x1 + 4294967296 * r2 - q1 * V) (e0 : r0 = x0 + 4294967296 * r1 - q0 * V) :
    hv4 x0 x1 x2 x3 + hv4 x4 x5 x6 x7 * 340282366920938463463374607431768211456 + hv4 x8 x9 x10 x11 * 115792089237316195423570985008687907853269984665640564039457584007913129639936 = quo q0 q1 q2 q3 q4 q5 q6 q7 * V + r0 := by
  have e : quo q0 q1 q2 q3 q4 q5 q6 q7 * V = q0 * V + q1 * V * 4294967296 + q2 * V * 18446744073709551616 + q3 * V * 79228162514264337593543950336 + (q4 * V + q5 * V * 4294967296 + q6 * V * 18446744073709551616 + q7 * V * 79228162514264337593543950336) * 340282366920938463463374607431768211456 := by
    unfold quo hv4
    simp only [Int.add_mul, Int.mul_assoc, Int.mul_comm V]
  rw [e]
  generalize q0 * V = p0 at *; generalize q1 * V = p1 at *; generalize q2 * V = p2 at *; generalize q3 * V = p3 at *
  generalize q4 * V = p4 at *; generalize q5 * V = p5 at *; generalize q6 * V = p6 at *; generalize q7 * V = p7 at *
  clear e
  unfold hv4 at *
  omega
theorem quo_nonneg {q0 q1 q2 q3 q4 q5 q6 q7 : Int} (h0 : Hf q0) (h1 : Hf q1) (h2 : Hf q2) (h3 : Hf q3) (h4 : Hf q4) (h5 : Hf q5) (h6 : Hf q6) (h7 : Hf q7) : 0 ≤ quo q0 q1 q2 q3 q4 q5 q6 q7 ∧ quo q0 q1 q2 q3 q4 q5 q6 q7 < 115792089237316195423570985008687907853269984665640564039457584007913129639936 := by
  obtain ⟨_, _⟩ := h0; obtain ⟨_, _⟩ := h1; obtain ⟨_, _⟩ := h2; obtain ⟨_, _⟩ := h3; obtain ⟨_, _⟩ := h4; obtain ⟨_, _⟩ := h5; obtain ⟨_, _⟩ := h6; obtain ⟨_, _⟩ := h7
  unfold quo hv4; omega
/-- So the quotient and the rest are those of the numbers. -/
theorem div_end {A b n : Nat} {Q r : Int} (hb : b ≠ 0) (hQ : 0 ≤ Q) (h : ((A * 2 ^ n : Nat) : Int) = Q * ((b * 2 ^ n : Nat) : Int) + r) (h0 : 0 ≤ r) (h1 : r < ((b * 2 ^ n : Nat) : Int)) :
    Q = ((A / b : Nat) : Int) ∧ r.toNat / 2 ^ n = A % b := by
  obtain ⟨q, rfl⟩ := Int.eq_ofNat_of_zero_le hQ
  obtain ⟨s, rfl⟩ := Int.eq_ofNat_of_zero_le h0
  have hp := Nat.two_pow_pos n
  have e : A * 2 ^ n = q * (b * 2 ^ n) + s := by exact_mod_cast h
  have l : s < b * 2 ^ n := by exact_mod_cast h1
  have hpos : 0 < b * 2 ^ n := Nat.mul_pos (by omega) hp
  have e1 : A * 2 ^ n / (b * 2 ^ n) = q := by
    rw [e, Nat.mul_comm q, Nat.mul_add_div hpos, Nat.div_eq_of_lt l, Nat.add_zero]
  have e2 : A * 2 ^ n % (b * 2 ^ n) = s := by
    rw [e, Nat.mul_comm q, Nat.mul_add_mod, Nat.mod_eq_of_lt l]
  rw [Nat.mul_div_mul_right _ _ hp] at e1
  rw [Nat.mul_mod_mul_right] at e2
  refine ⟨by rw [e1], ?_⟩
  rw [Int.toNat_natCast, ← e2, Nat.mul_div_cancel _ hp]
/-- Words of halves. -/
theorem quo_words {q0 q1 q2 q3 q4 q5 q6 q7 : Int} (h0 : Hf q0) (h1 : Hf q1) (h2 : Hf q2) (h3 : Hf q3) (h4 : Hf q4) (h5 : Hf q5) (h6 : Hf q6) (h7 : Hf q7) {n : Nat} (e : quo q0 q1 q2 q3 q4 q5 q6 q7 = (n : Int)) :
    q7 * 4294967296 + q6 = wd n 3 ∧ q5 * 4294967296 + q4 = wd n 2 ∧ q3 * 4294967296 + q2 = wd n 1 ∧ q1 * 4294967296 + q0 = wd n 0 := by
  obtain ⟨_, _⟩ := h0; obtain ⟨_, _⟩ := h1; obtain ⟨_, _⟩ := h2; obtain ⟨_, _⟩ := h3; obtain ⟨_, _⟩ := h4; obtain ⟨_, _⟩ := h5; obtain ⟨_, _⟩ := h6; obtain ⟨_, _⟩ := h7
  unfold quo hv4 at e
  rw [wd3, wd2, wd1, wd0]
  refine ⟨?_, ?_, ?_, ?_⟩ <;> omega
theorem rest_word {y0 y1 y2 y3 : Int} (h0 : Hf y0) (h1 : Hf y1) (h2 : Hf y2) (h3 : Hf y3) : v4 0 0 (y3 * 4294967296 + y2) (y1 * 4294967296 + y0) = (hv4 y0 y1 y2 y3).toNat := by
  obtain ⟨_, _⟩ := h0; obtain ⟨_, _⟩ := h1; obtain ⟨_, _⟩ := h2; obtain ⟨_, _⟩ := h3
  unfold v4 v2 hv4; omega
theorem hf_word {a b : Int} (h0 : Hf a) (h1 : Hf b) : Wd (b * 4294967296 + a) := by
  obtain ⟨_, _⟩ := h0; obtain ⟨_, _⟩ := h1
  exact ⟨by omega, by omega⟩
end Go.Proofs.Ytmmlekgojblopaa
namespace Go.Proofs.Ytmmlekgojblopaa

section
variable {P : Program} {ops : Array Oper} {Q : Exit → Act → World → Prop} {md : Region.Mode} {C : World → Prop} {k : Nat}

/-- Whatever order is picked, and C holds as long as operation k has not come. -/
def wpAnyK (P : Program) (md : Region.Mode) (ops : Array Oper) (Q : Exit → Act → World → Prop) (C : World → Prop) (k : Nat) : Nat → Array Bool → Act → World → Prop
  | 0, listed, a, w => Region.ready md ops listed = [] ∧ Q .normal a w
  | fuel + 1, listed, a, w =>
    (Region.ready md ops listed = [] → Q .normal a w) ∧
    ∀ i ∈ Region.ready md ops listed, wpOp P ops Q i (fun a' w' => ((listed.setIfInBounds i true).getD k true = false → C w') ∧ wpAnyK P md ops Q C k fuel (listed.setIfInBounds i true) a' w') a w

theorem wpAny_of_late : ∀ (fuel : Nat) (listed : Array Bool) (a : Act) (w : World), wpAnyK P md ops Q C k fuel listed a w → wpAny P md ops Q fuel listed a w
  | 0, _, _, _, h => h
  | fuel + 1, _, _, _, h => ⟨h.1, fun i hi => wpOp_mono (fun a' w' h' => wpAny_of_late fuel _ a' w' h'.2) (h.2 i hi)⟩

/-- Operation k waits for operation i. -/
def waits (md : Region.Mode) (ops : Array Oper) (k i : Nat) : Bool := ((ops[k]?).map (·.after.any fun e => Region.binds md e && e.on == i)).getD false
theorem waits_spec {i : Nat} (h : waits md ops k i = true) : ∃ o e, ops[k]? = some o ∧ e ∈ o.after ∧ Region.binds md e = true ∧ e.on = i := by
  unfold waits at h
  cases ho : ops[k]? with
  | none => rw [ho] at h; cases h
  | some o =>
    rw [ho] at h
    simp only [Option.map_some, Option.getD_some, Array.any_eq_true'] at h
    obtain ⟨e, he, hb⟩ := h
    simp only [Bool.and_eq_true, beq_iff_eq] at hb
    exact ⟨o, e, rfl, he, hb.1, hb.2⟩
theorem wpAnyK_first {i : Nat} {oi : Oper} {v : Value} (hi : ops[i]? = some oi) (hsel : ∀ (j : Nat) (o : Oper) cs b, ops[j]? = some o → o.op ≠ .select cs b)
    (hQ : ∀ c a w, Q (.panic c) (a.put oi.dst v) w → Q (.panic c) a w) (hk : waits md ops k i = true) :
    ∀ (fuel : Nat) (listed : Array Bool) (a : Act) (w : World), listed.getD k true = false →
      (∀ j oj, ops[j]? = some oj → j ≠ i → listed.getD j true = false → (∀ e ∈ oj.after, Region.binds md e = true → e.on ≠ i) → oi.apart ops oj = true) →
      i ∈ Region.ready md ops listed → YieldsIf P ops C oi v a → C w →
      wpAnyK P md ops Q C k fuel (listed.setIfInBounds i true) (a.put oi.dst v) w → wpAnyK P md ops Q C k (fuel + 1) listed a w := by
  intro fuel
  induction fuel with
  | zero =>
    intro listed a w _ _ hr hy hC H
    refine ⟨fun h => (by rw [h] at hr; cases hr), fun j hj => ?_⟩
    by_cases hji : j = i
    · subst hji; exact hy.wpOp hi hC ⟨fun _ => hC, H⟩
    · have := ready_mono hj hji
      rw [H.1] at this
      cases this
  | succ fuel ih =>
    intro listed a w hlk hfree hr hy hC H
    refine ⟨fun h => (by rw [h] at hr; cases hr), fun j hj => ?_⟩
    by_cases hji : j = i
    · subst hji; exact hy.wpOp hi hC ⟨fun _ => hC, H⟩
    · have h1 := H.2 j (ready_mono hj hji)
      obtain ⟨hjun, oj, hoj, hall⟩ := mem_ready.1 hj
      have hnot : ∀ e ∈ oj.after, Region.binds md e = true → e.on ≠ i := fun e he hb heq => by
        have h1 := hall e he hb
        have h0 := (mem_ready.1 hr).1
        rw [heq] at h1
        rcases Nat.lt_or_ge i listed.size with h' | h'
        · simp [h'] at h0 h1; rw [h0] at h1; cases h1
        · simp [Array.getElem?_eq_none h'] at h1
      have hjk : j ≠ k := fun h => by
        subst h
        obtain ⟨o, e, ho, he, hb, heq⟩ := waits_spec hk
        rw [hoj] at ho
        cases ho
        exact hnot e he hb heq
      have hik : i ≠ k := fun h => by
        subst h
        obtain ⟨o, e, ho, he, hb, heq⟩ := waits_spec hk
        obtain ⟨h0, o2, ho2, hall2⟩ := mem_ready.1 hr
        rw [ho] at ho2
        cases ho2
        have h1 := hall2 e he hb
        rw [heq] at h1
        rcases Nat.lt_or_ge i listed.size with h' | h'
        · simp [h'] at h0 h1; rw [h0] at h1; cases h1
        · simp [Array.getElem?_eq_none h'] at h1
      have h2 := wpOp_putIf hoj (hfree j oj hoj hji hjun hnot) (fun cs b => hsel i oi cs b hi) (fun cs b => hsel j oj cs b hoj) hQ hy h1
      have hlj : (listed.setIfInBounds j true).getD k true = false := by rw [getD_set_ne true hjk]; exact hlk
      have hlij : ((listed.setIfInBounds i true).setIfInBounds j true).getD k true = false := by rw [getD_set_ne true hjk, getD_set_ne true hik]; exact hlk
      have hfree' : ∀ m om, ops[m]? = some om → m ≠ i → (listed.setIfInBounds j true).getD m true = false →
          (∀ e ∈ om.after, Region.binds md e = true → e.on ≠ i) → oi.apart ops om = true := fun m om hm hmi hun hno => by
        refine hfree m om hm hmi ?_ hno
        by_cases hjm : j = m
        · subst hjm; exact hjun
        · rw [getD_set_ne true hjm] at hun; exact hun
      refine wpOp_mono (fun a' w' h3 => ⟨fun _ => h3.2.1 hlij, ih (listed.setIfInBounds j true) a' w' hlj hfree' (ready_mono hr (Ne.symm hji)) h3.1 (h3.2.1 hlij) ?_⟩) h2
      rw [Array.setIfInBounds_comm _ _ hji]
      exact h3.2.2

/-- Take number i first. -/
theorem wpAnyK_take {i : Nat} {oi : Oper} {v : Value} {fuel : Nat} {listed : Array Bool} {a : Act} {w : World} (hi : ops[i]? = some oi)
    (hs : Region.noSelect ops = true) (hf : Region.free md ops listed i = true) (hr : (Region.ready md ops listed).contains i = true) (hk : waits md ops k i = true) (hl : listed.getD k true = false)
    (hQ : ∀ c a w, Q (.panic c) (a.put oi.dst v) w → Q (.panic c) a w) (hy : YieldsIf P ops C oi v a) (hC : C w)
    (h : wpAnyK P md ops Q C k fuel (listed.setIfInBounds i true) (a.put oi.dst v) w) : wpAnyK P md ops Q C k (fuel + 1) listed a w :=
  wpAnyK_first hi (Region.noSelect_spec hs) hQ hk fuel listed a w hl (Region.free_spec hi hf) (by simpa using hr) hy hC h
/-- One operation alone may come up: carry it out. -/
theorem wpAnyK_one {i : Nat} {o : Oper} {fuel : Nat} {listed : Array Bool} {a : Act} {w : World} (hr : Region.ready md ops listed = [i]) (ho : ops[i]? = some o)
    (h : ∀ K' : Act → World → Prop, Shut (∀ a w, ((listed.setIfInBounds i true).getD k true = false → C w) → (((listed.setIfInBounds i true).getD k true = false → C w) → wpAnyK P md ops Q C k fuel (listed.setIfInBounds i true) a w) → K' a w) →
      if Region.wanted o (yielded ops a.tmps) = true then Oper.wp P o a w K' Q else K' (a.put o.dst undef) w) : wpAnyK P md ops Q C k (fuel + 1) listed a w := by
  refine ⟨fun h0 => (by rw [hr] at h0; cases h0), fun j hj => ?_⟩
  rw [hr] at hj
  rcases List.mem_cons.1 hj with rfl | hj
  · exact wpOp_step ho (fun K' hK => h K' (fun a w hC hW => hK a w ⟨hC, hW hC⟩))
  · cases hj
theorem wpAnyK_done {listed : Array Bool} {a : Act} {w : World} (hr : Region.ready md ops listed = []) (h : Q .normal a w) :
    ∀ fuel, wpAnyK P md ops Q C k fuel listed a w
  | 0 => ⟨hr, h⟩
  | _ + 1 => ⟨fun _ => h, by rw [hr]; simp⟩
theorem wp_region_late {id : Nat} {a : Act} {w : World} (C : World → Prop) (k : Nat) (hm : P.follows .mixedOrders = true)
    (h : wpAnyK P .any ops Q C k ops.size (Array.replicate ops.size false) a w.drew) : (Code.region id ops true).wp P Q a w :=
  wp_region_any hm (wpAny_of_late _ _ _ _ h)
theorem wp_region_late_drew {id : Nat} {a : Act} {w : World} (C : World → Prop) (k : Nat) (hm : P.follows .mixedOrders = true) (hC : C w.drew)
    (h : C w.drew → wpAnyK P .any ops Q C k ops.size (Array.replicate ops.size false) a w.drew) : (Code.region id ops true).wp P Q a w :=
  wp_region_late C k hm (h hC)
end
end Go.Proofs.Ytmmlekgojblopaa
namespace Go.Proofs.Ytmmlekgojblopaa

section
variable {P : Program} {ops : Array Oper} {Q : Exit → Act → World → Prop} {md : Region.Mode}

theorem count_set {l : List Bool} {i : Nat} (h : l[i]? = some false) : (l.set i true).count false + 1 = l.count false := by
  induction l generalizing i with
  | nil => simp at h
  | cons b l ih =>
    cases i with
    | zero => simp at h; subst h; simp
    | succ i =>
      simp only [List.set_cons_succ, List.count_cons]
      simp at h
      have := ih h
      omega
theorem ready_false {l : Array Bool} {i : Nat} (hi : i ∈ Region.ready md ops l) : l.toList[i]? = some false := by
  have h := (mem_ready.1 hi).1
  rcases Nat.lt_or_ge i l.size with g | g
  · simp [g] at h; simp [g, h]
  · simp [Array.getElem?_eq_none g] at h
theorem wpAny_inv (I : Array Bool → Act → World → Prop)
    (hstep : ∀ l a w i, I l a w → i ∈ Region.ready md ops l → wpOp P ops Q i (fun a' w' => I (l.setIfInBounds i true) a' w') a w)
    (hfin : ∀ l a w, I l a w → Region.ready md ops l = [] → Q .normal a w) :
    ∀ (fuel : Nat) (l : Array Bool) (a : Act) (w : World), I l a w → l.toList.count false ≤ fuel → wpAny P md ops Q fuel l a w := by
  intro fuel
  induction fuel with
  | zero =>
    intro l a w h hc
    have hr : Region.ready md ops l = [] := by
      rcases e : Region.ready md ops l with _ | ⟨i, rest⟩
      · rfl
      · have hf := ready_false (md := md) (ops := ops) (l := l) (i := i) (by rw [e]; simp)
        have := List.count_pos_iff.2 (List.mem_of_getElem? hf)
        omega
    exact ⟨hr, hfin l a w h hr⟩
  | succ fuel ih =>
    intro l a w h hc
    refine ⟨hfin l a w h, fun i hi => wpOp_mono (fun a' w' h' => ih _ a' w' h' ?_) (hstep l a w i h hi)⟩
    have hf := ready_false hi
    have := count_set hf
    rw [Array.toList_setIfInBounds]
    omega
theorem wp_region_inv {id : Nat} {a : Act} {w : World} (hm : P.follows .mixedOrders = true) (I : Array Bool → Act → World → Prop)
    (h0 : I (Array.replicate ops.size false) a { w with drawn := w.drawn + 1 })
    (hstep : ∀ l a w i, I l a w → i ∈ Region.ready .any ops l → wpOp P ops Q i (fun a' w' => I (l.setIfInBounds i true) a' w') a w)
    (hfin : ∀ l a w, I l a w → Region.ready .any ops l = [] → Q .normal a w) : (Code.region id ops true).wp P Q a w :=
  wp_region_any hm (wpAny_inv I hstep hfin _ _ _ _ h0 (by simp))
/-- One step, handed over behind a '∀ K'', as the region's tactics do it. -/
theorem inv_step {i : Nat} {o : Oper} {a : Act} {w : World} {K : Act → World → Prop} (ho : ops[i]? = some o)
    (h : ∀ K' : Act → World → Prop, Shut (∀ a w, K a w → K' a w) → if Region.wanted o (yielded ops a.tmps) = true then Oper.wp P o a w K' Q else K' (a.put o.dst undef) w) :
    wpOp P ops Q i K a w :=
  wpOp_step ho (fun K' hK => h K' hK)
/-- What is known of the state at the beginning may be named. -/
theorem wp_region_inv_at {id : Nat} {a : Act} {w : World} (I : Act → Array Bool → Act → World → Prop) (hm : P.follows .mixedOrders = true)
    (h0 : I a (Array.replicate ops.size false) a w.drew)
    (hstep : ∀ l a' w' i, I a l a' w' → i ∈ Region.ready .any ops l → wpOp P ops Q i (fun a'' w'' => I a (l.setIfInBounds i true) a'' w'') a' w')
    (hfin : ∀ l a' w', I a l a' w' → Region.ready .any ops l = [] → Q .normal a' w') : (Code.region id ops true).wp P Q a w :=
  wp_region_inv hm (I a) h0 hstep hfin
theorem ready_dep {l : Array Bool} {i j : Nat} (hi : i ∈ Region.ready md ops l) (hw : waits md ops i j = true) : l.getD j false = true := by
  obtain ⟨o, e, ho, he, hb, heq⟩ := waits_spec hw
  obtain ⟨_, o2, ho2, hall⟩ := mem_ready.1 hi
  rw [ho] at ho2
  cases ho2
  have := hall e he hb
  rwa [heq] at this
theorem ready_off {l : Array Bool} {i : Nat} (hi : i ∈ Region.ready md ops l) : l.getD i true = false := (mem_ready.1 hi).1
/-- Nothing may come up any more: then what waits for nothing that is missing has come. -/
theorem none_left {l : Array Bool} {i : Nat} {o : Oper} (hr : Region.ready md ops l = []) (ho : ops[i]? = some o) (hall : ∀ e ∈ o.after, Region.binds md e = true → l.getD e.on false = true) : l.getD i true = true := by
  rcases h : l.getD i true with _ | _
  · exact absurd (mem_ready.2 ⟨h, o, ho, hall⟩) (by rw [hr]; simp)
  · rfl
end
end Go.Proofs.Ytmmlekgojblopaa
