/- The search for a half of the quotient. -/
import Derived.Test.YtmelipbanbihdaaLimb
import Derived.Test.YtmelipbanbihdaaDivNum
namespace Go.Proofs.Ytmelipbanbihdaa
open Go.RowKit

theorem guessIn {r0 r1 r2 r3 r4 v0 v1 v2 v3 : Int} (a0 : Hf r0) (a1 : Hf r1) (a2 : Hf r2) (a3 : Hf r3) (a4 : Hf r4) (b0 : Hf v0) (b1 : Hf v1) (b2 : Hf v2) (b3 : Hf v3) (hT : 2147483648 ≤ v3) (hlt : hv4 r1 r2 r3 r4 < hv4 v0 v1 v2 v3) :
    GuessIn v3 v2 (v1 * 4294967296 + v0) (r4 * 4294967296 + r3) r2 (r1 * 4294967296 + r0) := by
  obtain ⟨_, _⟩ := a0; obtain ⟨_, _⟩ := a1; obtain ⟨_, _⟩ := a2; obtain ⟨_, _⟩ := a3; obtain ⟨_, _⟩ := a4
  obtain ⟨_, _⟩ := b0; obtain ⟨_, _⟩ := b1; obtain ⟨_, _⟩ := b2; obtain ⟨_, _⟩ := b3
  unfold hv4 at hlt
  refine ⟨?_, ?_, ?_, ?_, ?_, ?_, ?_, ?_, ?_, ?_, ?_, ?_, ?_⟩ <;> omega
def Guessed (R V : Int) (B : Nat) (w : World) (e : Ending) (w' : World) : Prop := ∃ t : Int, e = .returned (.int .u64 t) ∧ Hf t ∧ R < t * V + V ∧ t * V < R + V ∧ Below B w w'
theorem or_halves {l x : Int} (h0 : 0 ≤ l) (h1 : l < 4294967296) (hx : Hf x) : bits .or .u64 (IntKind.u64.wrap (l * 4294967296)) x = l * 4294967296 + x := by
  obtain ⟨_, _⟩ := hx
  rw [IntWalk.u64_in _ (by omega)]
  exact bits_join .u64 64 (by decide) (fun n h0 h1 => IntWalk.u64_in n (by omega)) 32 _ _ (by omega) (by omega) (by omega) (by omega) (by omega) (by omega)

theorem guess_end {r0 r1 r2 r3 r4 v0 v1 v2 v3 T L : Int} (G : GuessIn v3 v2 (v1 * 4294967296 + v0) (r4 * 4294967296 + r3) r2 (r1 * 4294967296 + r0))
    (hG : Guess v3 v2 (v1 * 4294967296 + v0) (r4 * 4294967296 + r3) r2 (r1 * 4294967296 + r0) T L) (h1 : T < 4294967296) (h2 : T * v2 ≤ L * 4294967296 + r2) :
    Hf T ∧ hv5 r0 r1 r2 r3 r4 < T * hv4 v0 v1 v2 v3 + hv4 v0 v1 v2 v3 ∧ T * hv4 v0 v1 v2 v3 < hv5 r0 r1 r2 r3 r4 + hv4 v0 v1 v2 v3 := by
  have a := Guess.stop G hG h1 h2
  have b := hG.above
  have e1 : hv4 v0 v1 v2 v3 = v3 * 79228162514264337593543950336 + v2 * 18446744073709551616 + (v1 * 4294967296 + v0) := by unfold hv4; omega
  have e2 : hv5 r0 r1 r2 r3 r4 = (r4 * 4294967296 + r3) * 79228162514264337593543950336 + r2 * 18446744073709551616 + (r1 * 4294967296 + r0) := by unfold hv5 hv4; omega
  rw [e1, e2]
  exact ⟨⟨hG.t0, h1⟩, b, a⟩
set_option maxHeartbeats 1000000 in
theorem guess_any (B o cap : Nat) (r0 r1 r2 r3 r4 v0 v1 v2 v3 : Int) (a0 : Hf r0) (a1 : Hf r1) (a2 : Hf r2) (a3 : Hf r3) (a4 : Hf r4) (b0 : Hf v0) (b1 : Hf v1) (b2 : Hf v2) (b3 : Hf v3) (hT : 2147483648 ≤ v3) (hlt : hv4 r1 r2 r3 r4 < hv4 v0 v1 v2 v3)
    (w : World) (hB : B < w.heap.size) (c2 : w.cell? ⟨B, o + 2, none⟩ = some (.int .u32 r2)) (c3 : w.cell? ⟨B, o + 3, none⟩ = some (.int .u32 r3)) (c4 : w.cell? ⟨B, o + 4, none⟩ = some (.int .u32 r4)) :
    Calls Try.prog 91 #[.slice (some ⟨B, o, none⟩) 5 cap, .agg #[.int .u32 v0, .int .u32 v1, .int .u32 v2, .int .u32 v3]] w (Guessed (hv5 r0 r1 r2 r3 r4) (hv4 v0 v1 v2 v3) w.heap.size w) := by
  have G := guessIn a0 a1 a2 a3 a4 b0 b1 b2 b3 hT hlt
  have hst := Guess.start G
  have k1 := a2.1; have k2 := a2.2; have k3 := a3.1; have k4 := a3.2; have k5 := a4.1; have k6 := a4.2
  have k7 := b2.1; have k8 := b2.2; have k9 := b3.1; have k10 := b3.2
  have hne : B ≠ w.heap.size := by omega
  have e1 : IntKind.u64.wrap v3 = v3 := IntWalk.u64_in _ (by omega)
  have e2 : IntKind.u64.wrap v2 = v2 := IntWalk.u64_in _ (by omega)
  have e6 : (v3 == 0) = false := by rw [beq_eq_false_iff_ne]; omega
  have e7 : ¬ v3 = 0 := by omega
  have q0 : 0 ≤ (r4 * 4294967296 + r3) / v3 := hst.t0
  have q1 : (r4 * 4294967296 + r3) / v3 ≤ r4 * 4294967296 + r3 := Int.ediv_le_self _ (by omega)
  have q2 : 0 ≤ (r4 * 4294967296 + r3) % v3 := hst.l0
  have q3 : (r4 * 4294967296 + r3) % v3 < v3 := Int.emod_lt_of_pos _ (by omega)
  have e3 : IntKind.u64.wrap ((r4 * 4294967296 + r3).tdiv v3) = (r4 * 4294967296 + r3) / v3 := IntWalk.u64_quo _ _ (by omega)
  have e4 : (r4 * 4294967296 + r3).tmod v3 = (r4 * 4294967296 + r3) % v3 := Int.tmod_eq_emod_of_nonneg (by omega)
  have e5 : IntKind.u64.wrap ((r4 * 4294967296 + r3) % v3) = (r4 * 4294967296 + r3) % v3 := IntWalk.u64_in _ (by omega)
  go_enter Try.func91, Try.ntmps91
  go_wp2
  go_region_held3 (fun w' => w'.cell? ⟨w.heap.size, 3, none⟩ = some (.int .u32 v3) ∧ w'.cell? ⟨w.heap.size, 2, none⟩ = some (.int .u32 v2)) (simp [*, go_sem]) (first | fail)
  rename_i hHeld; clear hHeld
  go_wp2
  go_region_held3 (fun w' => w'.cell? ⟨B, o + 3, none⟩ = some (.int .u32 r3) ∧ w'.cell? ⟨B, o + 4, none⟩ = some (.int .u32 r4)) (simp [*, go_sem])
    (first
      | (go_at_call 94; refine (join_any _ _ (by assumption) (by assumption) _).mono ?_; rintro e w' ⟨rfl, rfl⟩))
  rename_i hHeld; clear hHeld
  go_wp2
  go_region_held3 (fun w' => True) (trivial) (first | fail)
  rename_i hHeld; clear hHeld
  go_wp2
  clear e3 e4 e5
  go_loop [8, 9] (fun t l => ∃ T L : Int, t = .int .u64 T ∧ l = .int .u64 L ∧ T < 18446744073709551616 ∧ L < 4294967296 ∧ Guess v3 v2 (v1 * 4294967296 + v0) (r4 * 4294967296 + r3) r2 (r1 * 4294967296 + r0) T L) (fun t _ => (intOf t).toNat)
  case atStart => exact ⟨_, _, rfl, rfl, by omega, by omega, hst⟩
  case round =>
    obtain ⟨T, L, rfl, rfl, hT1, hL1, hG⟩ := hrel
    clear hst q0 q1 q2 q3
    have hT0 := hG.t0
    have hL0 := hG.l0
    have f2 := or_halves hL0 hL1 a2
    have f3 : bits .or .u64 (L * 4294967296) r2 = L * 4294967296 + r2 := by rw [IntWalk.u64_in _ (by omega)] at f2; exact f2
    have HE := Lib.hid (@guess_end r0 r1 r2 r3 r4 v0 v1 v2 v3 T L G hG)
    by_cases hA : 4294967296 ≤ T
    · have t1 : (T / 4294967296 != 0) = true := by rw [bne_iff_ne]; omega
      have hd := Guess.down G hG (Or.inl hA)
      have hd1 := hd.1
      by_cases hb : 4294967296 ≤ L + v3
      · have t2 : ((L + v3) / 4294967296 != 0) = true := by rw [bne_iff_ne]; omega
        have hf := Lib.hid (guess_end G hd.2 (Guess.far G hd.2 hb).1 (Guess.far G hd.2 hb).2)
        go_wp2
        go_returns
        exact ⟨_, rfl, hf.out.1, hf.out.2.1, hf.out.2.2, by go_grown⟩
      · have t2 : ((L + v3) / 4294967296 != 0) = false := by rw [bne_eq_false_iff_eq]; omega
        go_wp2
        go_round
        case rel => exact ⟨T - 1, L + v3, rfl, rfl, by omega, by omega, hd.2⟩
        case measure => simp [intOf]; omega
    · have t1 : (T / 4294967296 != 0) = false := by rw [bne_eq_false_iff_eq]; omega
      have p1 : 0 ≤ T * v2 := Int.mul_nonneg hT0 (by omega)
      have p2 : T * v2 ≤ T * 4294967296 := Int.mul_le_mul_of_nonneg_left (by omega) hT0
      have f1 : IntKind.u64.wrap (T * v2) = T * v2 := IntWalk.u64_in _ (by omega)
      by_cases hB2 : L * 4294967296 + r2 < T * v2
      · have hd := Guess.down G hG (Or.inr hB2)
        have hd1 := hd.1
        by_cases hb : 4294967296 ≤ L + v3
        · have t2 : ((L + v3) / 4294967296 != 0) = true := by rw [bne_iff_ne]; omega
          have hf := Lib.hid (guess_end G hd.2 (Guess.far G hd.2 hb).1 (Guess.far G hd.2 hb).2)
          go_wp2
          go_returns
          exact ⟨_, rfl, hf.out.1, hf.out.2.1, hf.out.2.2, by go_grown⟩
        · have t2 : ((L + v3) / 4294967296 != 0) = false := by rw [bne_eq_false_iff_eq]; omega
          go_wp2
          go_round
          case rel => exact ⟨T - 1, L + v3, rfl, rfl, by omega, by omega, hd.2⟩
          case measure => simp [intOf]; omega
      · have hf := Lib.hid (HE.out (by omega) (by omega))
        go_wp2
        go_returns
        exact ⟨_, rfl, hf.out.1, hf.out.2.1, hf.out.2.2, by go_grown⟩
end Go.Proofs.Ytmelipbanbihdaa
