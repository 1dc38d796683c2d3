/- Digits of 16: one digit, how many a word has, the digits of a word behind what stands already. -/
import Derived.Test.YtgiamnehncbihaaLeaf
import Derived.Test.YtgiamnehncbihaaShift
import Derived.Handy
import Derived.Deep.LoopGhost
import Derived.Laws.AppendOwn
import Derived.OwnWalk
namespace Go.Proofs.Ytgiamnehncbihaa
open Go.RowKit

/-- A digit's byte; a word's digits, the highest of n first. -/
def hexd (x : Nat) : Int := if x < 10 then 48 + (x : Int) else 87 + (x : Int)
def hexs (w : Nat) : Nat → List Int
  | 0 => []
  | n + 1 => hexd (w / 16 ^ n % 16) :: hexs w n
theorem hexs_length (w n : Nat) : (hexs w n).length = n := by
  induction n with
  | zero => rfl
  | succ n ih => simp [hexs, ih]
/-- How many digits a word has; nought has one. -/
def hexc (w : Nat) : Nat := if w < 16 then 1 else hexc (w / 16) + 1
decreasing_by omega
theorem hexc_16 (w : Nat) (h : 16 ≤ w) : hexc w = hexc (w / 16) + 1 := by rw [hexc, if_neg (by omega)]
theorem hexc_1 (w : Nat) (h : w < 16) : hexc w = 1 := by rw [hexc, if_pos h]
theorem hexc_le (n : Nat) : ∀ w : Nat, w < 16 ^ (n + 1) → hexc w ≤ n + 1 := by
  induction n with
  | zero => intro w h; rw [hexc_1 w (by simpa using h)]; exact Nat.le_refl _
  | succ n ih =>
    intro w h
    rcases Nat.lt_or_ge w 16 with c | c
    · rw [hexc_1 w c]; omega
    · rw [hexc_16 w c]
      have := ih (w / 16) (by rw [Nat.div_lt_iff_lt_mul (by decide)]; rw [Nat.pow_succ] at h; exact h)
      omega
theorem hexc_word {w : Nat} (h : w < 18446744073709551616) : hexc w ≤ 16 := hexc_le 15 w (by rw [show (16 : Nat) ^ (15 + 1) = 18446744073709551616 by decide]; exact h)
set_option maxRecDepth 20000 in
set_option maxHeartbeats 1000000 in
theorem count_any (a : Int) (ha : Wd a) (w : World) :
    Calls Try.prog 52 #[.int .u64 a] w fun e w' => e = .returned (.int .i64 ((hexc a.toNat : Nat) : Int)) ∧ Below w.heap.size w w' := by
  obtain ⟨A, rfl⟩ := Int.eq_ofNat_of_zero_le ha.1
  have hA := ha.2
  rw [Int.toNat_natCast]
  have hA2 : A < 18446744073709551616 := by omega
  clear ha
  go_enter Try.func52, Try.ntmps52
  go_wp2_with fail
  have e16 : (A : Int) / 16 = ((A / 16 : Nat) : Int) := by omega
  rw [e16]
  have hc : hexc A = 1 + (if A / 16 = 0 then 0 else hexc (A / 16)) := by
    split
    · rw [hexc_1 A (by omega)]
    · rw [hexc_16 A (by omega)]; omega
  have HC := Lib.hid hc
  have HA := Lib.hid hA2
  clear hc hA hA2 e16
  go_loopg [0, 3] 16 (fun k v n w' => ∃ V m : Nat, v = .int .u64 (V : Int) ∧ n = .int .i64 (m : Int) ∧ hexc A = m + (if V = 0 then 0 else hexc V) ∧ V < 16 ^ k ∧ m + k ≤ 17 ∧ V < 18446744073709551616 ∧ Below w.heap.size w w')
  case atStart =>
    have := HA.out
    exact ⟨A / 16, 1, rfl, rfl, HC.out, by rw [show (16 : Nat) ^ 16 = 18446744073709551616 by decide]; omega, by omega, by omega, Below.refl _ _⟩
  case round =>
    obtain ⟨V, m, rfl, rfl, hv, hp, hm, hV, hbl⟩ := hrel
    clear HC
    have HBL := Lib.hid hbl
    have HV := Lib.hid hv
    have HP := Lib.hid hp
    clear hbl hv hp
    by_cases hz : V = 0
    · subst hz
      have E := HV.out
      rw [if_pos rfl] at E
      have EE := Lib.hid E
      clear E HV HP
      go_wp2_with fail
      go_returns
      exact ⟨ret_int (by rw [EE.out]; simp), HBL.out⟩
    · obtain ⟨j, hj⟩ : ∃ j, gk = j + 1 := by
        rcases gk with _ | j
        · have := HP.out; simp at this; exact absurd this hz
        · exact ⟨j, rfl⟩
      subst hj
      have hz1 : ((V : Int) != 0) = true := by rw [bne_iff_ne]; omega
      have m1 : IntKind.i64.wrap ((m : Int) + 1) = (m : Int) + 1 := IntWalk.i64_in _ (by omega)
      have HN : Hid (hexc A = m + 1 + (if V / 16 = 0 then 0 else hexc (V / 16))) := by
        show _ = _
        rw [HV.out, if_neg hz]
        split
        · rw [hexc_1 V (by omega)]
        · rw [hexc_16 V (by omega)]; omega
      have HQ : Hid (V / 16 < 16 ^ j) := by
        show _ < _
        have := HP.out
        rw [Nat.div_lt_iff_lt_mul (by decide)]; rw [Nat.pow_succ] at this; exact this
      clear HV HP hz
      obtain ⟨U, hU⟩ : ∃ U, U = V / 16 := ⟨_, rfl⟩
      have e16 : (V : Int) / 16 = (U : Int) := by omega
      have hU2 : U < 18446744073709551616 := by omega
      rw [← hU] at HN HQ
      clear hU
      go_wp2_with fail
      go_roundg j
      case measure => omega
      case rel => exact ⟨U, m + 1, rfl, by simp, HN.out, HQ.out, by omega, hU2, HBL.out⟩
/-- The digits' bytes, read by a number below 16. -/
theorem hex_index (x : Nat) (h : x < 16) : ∀ W : World, (Instr.index 9 (.string ⟨#[48, 49, 50, 51, 52, 53, 54, 55, 56, 57, 97, 98, 99, 100, 101, 102]⟩) (.int .u64 (x : Int))).run Try.prog W = .ok (.int .u8 (hexd x)) W := by
  intro W
  rcases (show x = 0 ∨ x = 1 ∨ x = 2 ∨ x = 3 ∨ x = 4 ∨ x = 5 ∨ x = 6 ∨ x = 7 ∨ x = 8 ∨ x = 9 ∨ x = 10 ∨ x = 11 ∨ x = 12 ∨ x = 13 ∨ x = 14 ∨ x = 15 by omega) with rfl | rfl | rfl | rfl | rfl | rfl | rfl | rfl | rfl | rfl | rfl | rfl | rfl | rfl | rfl | rfl
  all_goals (kernel_rfl)
theorem word_15 (x : Int) (h : Wd x) : bits .and .u64 x 15 = x % 16 := bits_mask .u64 64 (by decide) (fun n h0 h1 => IntWalk.u64_in n (by omega)) 4 (by decide) x h.1 h.2
theorem hexd_byte (x : Nat) (h : x < 16) : 0 ≤ hexd x ∧ hexd x < 256 := by unfold hexd; split <;> omega
theorem Try.info_u8 : (Try.prog.info? 5).map (fun i => (i.zero, i.size, i.bytes)) = some (some (.int .u8 0), 1, 1) := by kernel_rfl
end Go.Proofs.Ytgiamnehncbihaa
