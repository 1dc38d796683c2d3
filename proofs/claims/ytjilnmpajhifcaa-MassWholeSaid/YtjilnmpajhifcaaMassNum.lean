/- Centres of masses as numbers: no program here. -/
import Derived.Test.YtjilnmpajhifcaaZzLimA
namespace Go.Proofs.Ytjilnmpajhifcaa
theorem sg_false (n : Int) : sg false n = n := rfl
/-- A whole mass times a place: no rounding. -/
theorem mulr_whole {k : Int} (hk : 0 < k) (x : Int) : mulr (k * 18446744073709551616) x = k * x := by
  unfold mulr
  have e1 : decide (k * 18446744073709551616 < 0) = false := decide_eq_false (by omega)
  have e2 : (k * 18446744073709551616).natAbs * x.natAbs = (k * x).natAbs * 18446744073709551616 := by
    rw [Int.natAbs_mul, Int.natAbs_mul]; show k.natAbs * 18446744073709551616 * x.natAbs = _
    rw [Nat.mul_right_comm]
  rw [e1, e2]
  have e3 : ((k * x).natAbs * 18446744073709551616 + 9223372036854775808) / 18446744073709551616 = (k * x).natAbs := by omega
  rw [e3]
  by_cases h : x < 0
  · rw [decide_eq_true h]
    have : k * x < 0 := Int.mul_neg_of_pos_of_neg hk h
    show -(((k * x).natAbs : Nat) : Int) = k * x
    omega
  · rw [decide_eq_false h]
    have : 0 ≤ k * x := Int.mul_nonneg (by omega) (by omega)
    show (((k * x).natAbs : Nat) : Int) = k * x
    omega
/-- By a whole mass. -/
theorem divr_whole {K : Nat} (hK : 0 < K) (s : Int) : divr s ((K : Int) * 18446744073709551616) = sg (decide (s < 0)) (((2 * s.natAbs + K) / (2 * K) : Nat) : Int) := by
  unfold divr
  have e1 : decide ((K : Int) * 18446744073709551616 < 0) = false := decide_eq_false (by omega)
  have e2 : ((K : Int) * 18446744073709551616).natAbs = K * 18446744073709551616 := by omega
  rw [e1, e2, Bool.bne_false]
  congr 2
  rw [show s.natAbs * 36893488147419103232 + K * 18446744073709551616 = (2 * s.natAbs + K) * 18446744073709551616 by omega, show 2 * (K * 18446744073709551616) = (2 * K) * 18446744073709551616 by omega]
  exact Nat.mul_div_mul_right _ _ (by decide)
/-- What is between two places is so when rounded. -/
theorem divr_between {K : Nat} (hK : 0 < K) {s lo hi : Int} (h1 : lo * (K : Int) ≤ s) (h2 : s ≤ hi * (K : Int)) : lo ≤ divr s ((K : Int) * 18446744073709551616) ∧ divr s ((K : Int) * 18446744073709551616) ≤ hi := by
  rw [divr_whole hK]
  have up : ∀ (a : Nat) (h : Int), (a : Int) ≤ h * (K : Int) → (((2 * a + K) / (2 * K) : Nat) : Int) ≤ h := by
    intro a h ha
    have h0 : 0 ≤ h := by
      rcases Int.lt_or_le h 0 with n | n
      · have := Int.mul_neg_of_neg_of_pos n (show (0 : Int) < (K : Int) by omega); omega
      · exact n
    obtain ⟨n, rfl⟩ := Int.eq_ofNat_of_zero_le h0
    have ha' : a ≤ n * K := by exact_mod_cast ha
    have : (2 * a + K) / (2 * K) < n + 1 := by
      rw [Nat.div_lt_iff_lt_mul (by omega)]
      have : (n + 1) * (2 * K) = 2 * (n * K) + 2 * K := by rw [Nat.add_mul, Nat.mul_left_comm, Nat.one_mul]
      omega
    show (((2 * a + K) / (2 * K) : Nat) : Int) ≤ (n : Int)
    omega
  have dn : ∀ (a : Nat) (h : Int), h * (K : Int) ≤ (a : Int) → h ≤ (((2 * a + K) / (2 * K) : Nat) : Int) := by
    intro a h ha
    rcases Int.lt_or_le h 0 with nn | nn
    · exact Int.le_trans (Int.le_of_lt nn) (Int.natCast_nonneg _)
    · obtain ⟨n, rfl⟩ := Int.eq_ofNat_of_zero_le nn
      have ha' : n * K ≤ a := by exact_mod_cast ha
      have : n ≤ (2 * a + K) / (2 * K) := by
        rw [Nat.le_div_iff_mul_le (by omega)]
        have : n * (2 * K) = 2 * (n * K) := by rw [Nat.mul_left_comm]
        omega
      show (n : Int) ≤ (((2 * a + K) / (2 * K) : Nat) : Int)
      omega
  by_cases h : s < 0
  · rw [decide_eq_true h]
    show lo ≤ -(((2 * s.natAbs + K) / (2 * K) : Nat) : Int) ∧ -(((2 * s.natAbs + K) / (2 * K) : Nat) : Int) ≤ hi
    have a1 := up s.natAbs (-lo) (by rw [Int.neg_mul]; omega)
    have a2 := dn s.natAbs (-hi) (by rw [Int.neg_mul]; omega)
    omega
  · rw [decide_eq_false h]
    exact ⟨dn s.natAbs lo (by omega), up s.natAbs hi (by omega)⟩
/-- One body: where it is. -/
theorem divr_one {K : Nat} (hK : 0 < K) (x : Int) : divr ((K : Int) * x) ((K : Int) * 18446744073709551616) = x := by
  have h := divr_between hK (s := (K : Int) * x) (lo := x) (hi := x) (by rw [Int.mul_comm]; exact Int.le_refl _) (by rw [Int.mul_comm]; exact Int.le_refl _)
  omega
/-- Two of one mass: half the way. -/
theorem divr_two {K : Nat} (hK : 0 < K) (a : Int) : divr ((K : Int) * a) (((2 * K : Nat) : Int) * 18446744073709551616) = halfr a := by
  rw [divr_whole (by omega)]
  unfold halfr
  have e : decide ((K : Int) * a < 0) = decide (a < 0) := by
    by_cases h : a < 0
    · rw [decide_eq_true h, decide_eq_true (Int.mul_neg_of_pos_of_neg (by omega) h)]
    · rw [decide_eq_false h, decide_eq_false (Int.not_lt.2 (Int.mul_nonneg (by omega) (by omega)))]
  rw [e]
  congr 2
  rw [Int.natAbs_mul, Int.natAbs_natCast, show 2 * (K * a.natAbs) + 2 * K = (2 * K) * (a.natAbs + 1) by rw [Nat.mul_add, Nat.mul_one, Nat.mul_assoc], show 2 * (2 * K) = (2 * K) * 2 by omega]
  exact Nat.mul_div_mul_left _ _ (by omega)
/-- All masses, and all masses by their places. -/
def sK (l : List (Int × Int)) : Int := (l.map Prod.fst).sum
def sX (l : List (Int × Int)) : Int := (l.map fun p => p.1 * p.2).sum
theorem sK_app (l m : List (Int × Int)) : sK (l ++ m) = sK l + sK m := by unfold sK; rw [List.map_append, List.sum_append]
theorem sX_app (l m : List (Int × Int)) : sX (l ++ m) = sX l + sX m := by unfold sX; rw [List.map_append, List.sum_append]
theorem sK_back (l : List (Int × Int)) : sK l.reverse = sK l := by
  induction l with
  | nil => rfl
  | cons x l ih => rw [List.reverse_cons, sK_app, ih]; show sK l + (x.1 + 0) = x.1 + sK l; omega
theorem sX_back (l : List (Int × Int)) : sX l.reverse = sX l := by
  induction l with
  | nil => rfl
  | cons x l ih => rw [List.reverse_cons, sX_app, ih]; show sX l + (x.1 * x.2 + 0) = x.1 * x.2 + sX l; omega
theorem sX_between {lo hi : Int} : ∀ {l : List (Int × Int)}, (∀ p ∈ l, 0 < p.1 ∧ lo ≤ p.2 ∧ p.2 ≤ hi) → lo * sK l ≤ sX l ∧ sX l ≤ hi * sK l := by
  intro l
  induction l with
  | nil => intro _; exact ⟨by show lo * 0 ≤ 0; omega, by show 0 ≤ hi * 0; omega⟩
  | cons x l ih =>
    intro h
    obtain ⟨h1, h2, h3⟩ := h x (List.mem_cons_self)
    have k := ih fun p hp => h p (List.mem_cons_of_mem _ hp)
    have a := Int.mul_le_mul_of_nonneg_left h2 (Int.le_of_lt h1)
    have b := Int.mul_le_mul_of_nonneg_left h3 (Int.le_of_lt h1)
    show lo * (x.1 + sK l) ≤ x.1 * x.2 + sX l ∧ x.1 * x.2 + sX l ≤ hi * (x.1 + sK l)
    rw [Int.mul_add, Int.mul_add, Int.mul_comm lo x.1, Int.mul_comm hi x.1]
    omega
theorem sK_bounds {n : Nat} {top : Int} : ∀ {l : List (Int × Int)}, l.length ≤ n → (∀ p ∈ l, 0 < p.1 ∧ p.1 ≤ top) → 0 ≤ sK l ∧ sK l ≤ (l.length : Int) * top := by
  intro l
  induction l with
  | nil => intro _ _; exact ⟨Int.le_refl _, by show (0 : Int) ≤ 0 * top; omega⟩
  | cons x l ih =>
    intro hl h
    have k := ih (by simp at hl; omega) fun p hp => h p (List.mem_cons_of_mem _ hp)
    obtain ⟨h1, h2⟩ := h x (List.mem_cons_self)
    show 0 ≤ x.1 + sK l ∧ x.1 + sK l ≤ ((l.length + 1 : Nat) : Int) * top
    rw [show ((l.length + 1 : Nat) : Int) = (l.length : Int) + 1 by omega, Int.add_mul, Int.one_mul]
    omega
end Go.Proofs.Ytjilnmpajhifcaa
