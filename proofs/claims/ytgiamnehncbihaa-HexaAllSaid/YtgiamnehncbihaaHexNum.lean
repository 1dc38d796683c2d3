/- A number's text reads as the number. -/
import Derived.Test.YtgiamnehncbihaaHexGen
namespace Go.Proofs.Ytgiamnehncbihaa
open Go.RowKit

theorem or_digit (X d : Nat) (h0 : X % 16 = 0) (h1 : X < 18446744073709551616) (hd : d < 16) : bits .or .u64 (X : Int) (d : Int) = ((X + d : Nat) : Int) := by
  have := bits_join .u64 64 (by decide) (fun n h0 h1 => IntWalk.u64_in n (by omega)) 4 (X : Int) (d : Int) (by omega) (by omega) (by omega) (by omega) (by omega) (by omega)
  rw [this]; omega
theorem digv_hexb : ∀ x : Nat, x < 16 → digv (hexb x).toNat = x ∧ hexb x ≠ 45 ∧ hexb x ≠ 46 := by decide
theorem readw_hexB (w n : Nat) : ∀ V, (V + 1) * 16 ^ n ≤ 18446744073709551616 → ∀ rest, readw V (hexB w n ++ rest) = readw (V * 16 ^ n + w % 16 ^ n) rest := by
  induction n with
  | zero => intro V _ rest; simp [hexB, Nat.mod_one]
  | succ n ih =>
    intro V h rest
    have hd : w / 16 ^ n % 16 < 16 := Nat.mod_lt _ (by decide)
    have e1 : w % 16 ^ (n + 1) = w % 16 ^ n + 16 ^ n * (w / 16 ^ n % 16) := by rw [Nat.pow_succ, Nat.mod_mul]
    show readw V (hexb (w / 16 ^ n % 16) :: (hexB w n ++ rest)) = _
    rw [e1]
    generalize w / 16 ^ n % 16 = d at *
    have hp : 1 ≤ 16 ^ n := Nat.pow_pos (by decide)
    have h2 : (V * 16 + 16) * 16 ^ n ≤ 18446744073709551616 := by
      have : (V * 16 + 16) * 16 ^ n = (V + 1) * 16 ^ (n + 1) := by rw [Nat.pow_succ, Nat.mul_comm (16 ^ n) 16, ← Nat.mul_assoc, Nat.add_mul V 1 16]
      omega
    have h3 : V * 16 + 16 ≤ 18446744073709551616 := by
      have := Nat.mul_le_mul_left (V * 16 + 16) hp
      omega
    have h4 : (V * 16 + d + 1) * 16 ^ n ≤ 18446744073709551616 := Nat.le_trans (Nat.mul_le_mul_right _ (by omega)) h2
    have e2 : readw V (hexb d :: (hexB w n ++ rest)) = readw (V * 16 + d) (hexB w n ++ rest) := by
      show readw (bits .or .u64 (((V * 16 % 18446744073709551616 : Nat)) : Int) ((digv (hexb d).toNat : Nat) : Int)).toNat _ = _
      rw [(digv_hexb d hd).1, Nat.mod_eq_of_lt (by omega), or_digit _ _ (by omega) (by omega) hd, Int.toNat_natCast]
    rw [e2, ih _ h4]
    congr 1
    rw [Nat.pow_succ, Nat.add_mul, Nat.mul_comm (16 ^ n) 16, ← Nat.mul_assoc, Nat.mul_comm (16 ^ n) d]
    omega
theorem read_hexB (w n : Nat) (h : w < 16 ^ n) (hn : n ≤ 16) : readw 0 (hexB w n) = w := by
  have := readw_hexB w n 0 (by
    have := Nat.pow_le_pow_right (show 0 < 16 by decide) hn
    omega) []
  rw [List.append_nil, Nat.mod_eq_of_lt h] at this
  rw [this]; simp [readw]
theorem hexB_mem (w n : Nat) (b : UInt8) (h : b ∈ hexB w n) : b ≠ 45 ∧ b ≠ 46 := by
  induction n with
  | zero => simp [hexB] at h
  | succ n ih =>
    rcases List.mem_cons.1 h with rfl | h
    · exact (digv_hexb _ (Nat.mod_lt _ (by decide))).2
    · exact ih h
theorem hexc_pos (w : Nat) : 0 < hexc w := by unfold hexc; split <;> omega
theorem hexc_room (w : Nat) : w < 16 ^ hexc w := by
  induction w using Nat.strongRecOn with
  | ind w ih =>
    rcases Nat.lt_or_ge w 16 with c | c
    · rw [hexc_1 w c]; simpa using c
    · rw [hexc_16 w c, Nat.pow_succ]
      have := ih (w / 16) (by omega)
      omega
theorem index_dot (l r : List UInt8) (h : ∀ b ∈ l, b ≠ 46) : Lib.index (l ++ 46 :: r) [46] = (l.length : Int) := by
  induction l with
  | nil => simp [Lib.index]
  | cons a l ih =>
    have ha : a ≠ 46 := h a (by simp)
    have e := ih (fun b hb => h b (by simp [hb]))
    simp only [List.cons_append, Lib.index]
    rw [e]
    have : ([46] : List UInt8).isPrefixOf (a :: (l ++ 46 :: r)) = false := by simp [List.isPrefixOf]; exact fun h => ha h.symm
    rw [this]
    first | (simp; done) | (simp; omega)
theorem cut_dot (l r : List UInt8) (h : ∀ b ∈ l, b ≠ 46) : Lib.cut (l ++ 46 :: r) [46] = (l, r, true) := by
  unfold Lib.cut
  rw [index_dot l r h, if_pos (by omega)]
  simp
theorem pnum0_parts (A L n k : Nat) (c2 : A < 16 ^ n) (c3 : n ≤ 16) (l : L < 16 ^ k) (k16 : k ≤ 16) (a : (A : Int) < 9223372036854775808) :
    pnum0 (hexB A n, hexB L k, true) = (A : Int) * 18446744073709551616 + (L : Int) := by
  unfold pnum0
  rw [read_hexB _ _ c2 c3, read_hexB L k l k16, IntWalk.i64_in _ (by omega)]
theorem word_16 {L : Nat} (l : L < 18446744073709551616) : L < 16 ^ 16 := Nat.lt_of_lt_of_le l (by decide)
theorem hasP_neg (l : List UInt8) : Lib.hasPrefix (45 :: l) [45] = true := by simp [Lib.hasPrefix, List.isPrefixOf]
theorem trimP_neg (l : List UInt8) : Lib.trimPrefix (45 :: l) [45] = l := by unfold Lib.trimPrefix; rw [hasP_neg, if_pos rfl]; rfl
theorem hasP_pos (b : UInt8) (l : List UInt8) (h : b ≠ 45) : Lib.hasPrefix (b :: l) [45] = false := by simp [Lib.hasPrefix, List.isPrefixOf]; exact fun g => h g.symm
theorem trimP_pos (b : UInt8) (l : List UInt8) (h : b ≠ 45) : Lib.trimPrefix (b :: l) [45] = b :: l := by unfold Lib.trimPrefix; rw [hasP_pos b l h, if_neg Bool.false_ne_true]
theorem pnum_neg (A n L k : Nat) (v : Int) (h : pnum0 (hexB A n, hexB L k, true) = v) : pnum (45 :: (hexB A n ++ 46 :: hexB L k)) = ng v := by
  unfold pnum
  rw [hasP_neg, trimP_neg, if_pos rfl, cut_dot (hexB A n) (hexB L k) (fun b hb => (hexB_mem _ _ b hb).2), h]
theorem pnum_pos (A n L k : Nat) (v : Int) (hn : 0 < n) (h : pnum0 (hexB A n, hexB L k, true) = v) : pnum (hexB A n ++ 46 :: hexB L k) = v := by
  obtain ⟨b, bs, hb, e⟩ : ∃ b bs, b ≠ 45 ∧ hexB A n ++ 46 :: hexB L k = b :: bs := by
    rcases hh : hexB A n with _ | ⟨b, bs⟩
    · have := hexB_length A n; rw [hh] at this; simp at this; omega
    · exact ⟨b, _, (hexB_mem A n b (by rw [hh]; simp)).1, rfl⟩
  unfold pnum
  rw [e, hasP_pos b bs hb, trimP_pos b bs hb, if_neg Bool.false_ne_true, ← e, cut_dot (hexB A n) (hexB L k) (fun b hb => (hexB_mem _ _ b hb).2), h]
theorem txt_neg (x : Int) (A L : Nat) (hA : x.natAbs / 18446744073709551616 = A) (hL : x.natAbs % 18446744073709551616 = L) (c : x < 0) : txt x = 45 :: (hexB A (hexc A) ++ 46 :: hexB L 16) := by
  unfold txt; rw [if_pos c, hA, hL]; simp only [List.append_assoc, List.cons_append, List.nil_append]
theorem txt_pos (x : Int) (A L : Nat) (hA : x.natAbs / 18446744073709551616 = A) (hL : x.natAbs % 18446744073709551616 = L) (c : ¬ x < 0) : txt x = hexB A (hexc A) ++ 46 :: hexB L 16 := by
  unfold txt; rw [if_neg c, hA, hL]; simp only [List.append_assoc, List.cons_append, List.nil_append]
theorem txt_parts (x : Int) (A L : Nat) (hA : x.natAbs / 18446744073709551616 = A) (hL : x.natAbs % 18446744073709551616 = L) (a : (A : Int) < 9223372036854775808) (a2 : A < 18446744073709551616) (l : L < 18446744073709551616) :
    pnum (txt x) = if x < 0 then ng ((A : Int) * 18446744073709551616 + (L : Int)) else (A : Int) * 18446744073709551616 + (L : Int) := by
  have P := pnum0_parts A L (hexc A) 16 (hexc_room A) (hexc_word a2) (word_16 l) (Nat.le_refl _) a
  by_cases c : x < 0
  · rw [txt_neg x A L hA hL c, if_pos c]; exact pnum_neg _ _ _ _ _ P
  · rw [txt_pos x A L hA hL c, if_neg c]; exact pnum_pos _ _ _ _ _ (hexc_pos A) P
/-- A number's text tells the number. -/
theorem pnum_txt (x : Int) (hx : My x) : pnum (txt x) = x := by
  obtain ⟨h0, h1⟩ := hx
  rw [txt_parts x _ _ rfl rfl (by omega) (by omega) (by omega)]
  by_cases c : x < 0
  · rw [if_pos c]
    unfold ng
    rw [if_neg (by omega)]; omega
  · rw [if_neg c]; omega
theorem txtF_my {x : Int} (h : My x) : txtF x = txt x := by unfold txtF; rw [if_neg (by unfold My at h; omega)]
theorem pnum_nil : pnum [] = 0 := by decide
/-- What Parse tells: the number if the bytes are its text. -/
theorem parse_is (s : List UInt8) : (txtF (pnum s) == s) = true ↔ ∃ x, My x ∧ s = txt x := by
  constructor
  · intro h
    have e := eq_of_beq h
    have F : Fx (pnum s) := by
      unfold pnum
      split
      · exact ng_fx (pnum0_fx _)
      · exact pnum0_fx _
    by_cases c : pnum s = -170141183460469231731687303715884105728
    · have e2 : s = [] := by rw [← e]; unfold txtF; rw [if_pos c]
      rw [e2, pnum_nil] at c; omega
    · have m : My (pnum s) := by unfold Fx at F; unfold My; omega
      exact ⟨_, m, by rw [← txtF_my m, e]⟩
  · rintro ⟨x, hx, rfl⟩
    rw [pnum_txt x hx, txtF_my hx]; exact beq_self_eq_true _
end Go.Proofs.Ytgiamnehncbihaa
