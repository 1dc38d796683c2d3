/- The document's length. -/
import Derived.Test.YtgcblfaommhpbaaRefWords
namespace Go.Proofs.Ytgcblfaommhpbaa
open Go.RowKit

set_option maxHeartbeats 4000000 in
theorem rlen_any (a3 a2 a1 a0 : Int) (h3 : Wd a3) (h2 : Wd a2) (h1 : Wd a1) (h0 : Wd a0) (w : World) :
    Calls Try.prog 26 #[.agg #[.int .u64 a3, .int .u64 a2, .int .u64 a1, .int .u64 a0]] w fun e w' => e = .returned (.int .i64 ((blen (v4 a3 a2 a1 a0) : Nat) : Int)) ∧ Below w.heap.size w w' := by
  have hA := v4_lt h3 h2 h1 h0
  rw [show (115792089237316195423570985008687907853269984665640564039457584007913129639936 : Nat) = 2 ^ 256 by decide] at hA
  have HA := Lib.hid hA
  have HC : Hid (∀ i : Nat, i < 256 → ∀ W, Calls Try.prog 70 #[.agg #[.int .u64 a3, .int .u64 a2, .int .u64 a1, .int .u64 a0], .int .i64 (i : Int)] W fun e w' => e = .returned (.int .u64 ((bt (v4 a3 a2 a1 a0) i : Nat) : Int)) ∧ Below W.heap.size W w') := fun i hi W => rbit_any a3 a2 a1 a0 h3 h2 h1 h0 i hi W
  clear hA h3 h2 h1 h0
  generalize v4 a3 a2 a1 a0 = A at *
  go_enter Try.func26, Try.ntmps26
  go_wp2_with fail
  have g0 : Has w.heap.size [.int .u64 a3, .int .u64 a2, .int .u64 a1, .int .u64 a0] (w.alloc (.cells #[.int .u64 a3, .int .u64 a2, .int .u64 a1, .int .u64 a0] 26)) ∧ Below w.heap.size w (w.alloc (.cells #[.int .u64 a3, .int .u64 a2, .int .u64 a1, .int .u64 a0] 26)) :=
    ⟨Has.mk4 (by simp) (by simp [go_sem]) (by simp [go_sem]) (by simp [go_sem]) (by simp [go_sem]), bl_al (Below.refl _ _) _⟩
  have G0 := Lib.hid g0
  clear g0
  go_loopg [3] 256 (fun k iv wr => k ≤ 256 ∧ iv = .int .i64 ((k : Int) - 1) ∧ A < 2 ^ k ∧ Has w.heap.size [.int .u64 a3, .int .u64 a2, .int .u64 a1, .int .u64 a0] wr ∧ Below w.heap.size w wr)
  case atStart => exact ⟨Nat.le_refl _, rfl, HA.out, G0.out⟩
  case round =>
    obtain ⟨hk, rfl, hA, hX, hbl⟩ := hrel
    clear G0 HA
    have HBL := Lib.hid hbl
    have HX := Lib.hid hX
    clear hbl
    rcases gk with _ | k
    · have E : Hid (((blen A : Nat) : Int) = 0) := by
        show _ = _
        rw [show A = 0 by simpa using hA]; rfl
      clear hA hX HX HC
      go_wp2_with fail
      go_returns
      exact ⟨ret_int E.out.symm, HBL.out⟩
    · have c0 := hX.2 0 _ rfl; have c1 := hX.2 1 _ rfl; have c2 := hX.2 2 _ rfl; have c3 := hX.2 3 _ rfl
      have k1 : ((k + 1 : Nat) : Int) - 1 = (k : Int) := by omega
      have k4 : (k : Int) < 256 := by omega
      have wk : IntKind.i64.wrap ((k : Int) - 1) = (k : Int) - 1 := IntWalk.i64_in _ (by omega)
      have wk2 : IntKind.i64.wrap ((k : Int) + 1) = (k : Int) + 1 := IntWalk.i64_in _ (by omega)
      rw [k1]
      have HC1 := Lib.hid (HC.out k (by omega))
      have Hhit : Hid (bt A k = 1 → ((blen A : Nat) : Int) = (k : Int) + 1) := fun g => by rw [len_hit hA g]; omega
      have Hmiss : Hid (bt A k ≠ 1 → A < 2 ^ k) := fun g => len_miss hA g
      have hb1 := bt_le A k
      clear hX k1 hA HC
      generalize bt A k = b at *
      go_wp2_with fail
      refine (HC1.out _).mono ?_
      rintro e w1 ⟨rfl, hb⟩
      have HB1 := Lib.hid (bl_trans HBL.out hb)
      have HX1 := Lib.hid (HX.out.step hb)
      clear hb HBL HX HC1 c0 c1 c2 c3
      rcases (show b = 0 ∨ b = 1 by omega) with rfl | rfl
      · have HM := Lib.hid (Hmiss.out (by decide))
        clear Hmiss Hhit
        go_wp2_with fail
        go_roundg k
        case measure => omega
        case rel => exact ⟨by omega, rfl, HM.out, HX1.out, HB1.out⟩
      · have HM := Lib.hid (Hhit.out rfl)
        clear Hmiss Hhit
        go_wp2_with fail
        go_returns
        exact ⟨ret_int HM.out.symm, HB1.out⟩
end Go.Proofs.Ytgcblfaommhpbaa
