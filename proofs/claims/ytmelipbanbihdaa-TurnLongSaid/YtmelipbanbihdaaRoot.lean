/- The root of a word; the mean of two numbers. -/
import Derived.Test.YtmelipbanbihdaaDvd
import Derived.Test.YtmelipbanbihdaaRootNum
namespace Go.Proofs.Ytmelipbanbihdaa
open Go.RowKit

theorem rootOfWord_any (a : Int) (ha : Wd a) (w : World) :
    Calls Try.prog 75 #[.int .u64 a] w fun e w' => e = .returned (.int .u64 ((isq a.toNat : Nat) : Int)) ∧ w = w' := by
  have hn : a.toNat < 18446744073709551616 := by have := ha.1; have := ha.2; omega
  have hst := RW_start hn
  rw [show ((a.toNat : Nat) : Int) = a by have := ha.1; omega] at hst
  go_enter Try.func75, Try.ntmps75
  go_wp2
  go_loop [0, 3, 4] (fun x r b => ∃ W R B : Int, x = .int .u64 W ∧ r = .int .u64 R ∧ b = .int .u64 B ∧ RW a.toNat W R B ∧ 0 ≤ B ∧ B < 18446744073709551616) (fun _ _ b => (intOf b).toNat)
  case atStart => exact ⟨a, 0, 4611686018427387904, rfl, rfl, rfl, hst, by decide, by decide⟩
  case round =>
    obtain ⟨W, R, B, rfl, rfl, rfl, hrw, hB0, hB1⟩ := hrel
    clear hst
    by_cases hz : B = 0
    · subst hz
      have he := Lib.hid (RW_end hrw)
      go_wp2
      go_returns
      exact ⟨ret_int he.out, rfl⟩
    · have t1 : (B != 0) = true := by rw [bne_iff_ne]; exact hz
      obtain ⟨f1, f2, f3, f4, f5, f6, f7, f8, f9⟩ := RW_bits hn hrw hz
      have F8 := Lib.hid f8
      have F9 := Lib.hid f9
      clear f8 f9
      by_cases hc : R + B ≤ W
      · go_wp2
        go_round
        case rel => exact ⟨_, _, _, rfl, rfl, rfl, F8.out hc, by omega, by omega⟩
        case measure => simp [intOf]; omega
      · go_wp2
        go_round
        case rel => exact ⟨_, _, _, rfl, rfl, rfl, F9.out (by omega), by omega, by omega⟩
        case measure => simp [intOf]; omega
set_option maxHeartbeats 1000000 in
theorem mean_any (a1 a0 b1 b0 : Int) (ha1 : Wd a1) (ha0 : Wd a0) (hb1 : Wd b1) (hb0 : Wd b0) (w : World) :
    Calls Try.prog 79 #[.agg #[.int .u64 a1, .int .u64 a0], .agg #[.int .u64 b1, .int .u64 b0]] w fun e w' =>
      e = .returned (.agg #[.int .u64 (wd ((v2 a1 a0 + v2 b1 b0) / 2) 1), .int .u64 (wd ((v2 a1 a0 + v2 b1 b0) / 2) 0)]) ∧ Below w.heap.size w w' := by
  have fl := fun x0 x1 x2 x3 w => (field_four x0 x1 x2 x3 w).2
  have hs : Wd (wd (v2 a1 a0 + v2 b1 b0) 1) := wd_wd _ _
  have hs0 : Wd (wd (v2 a1 a0 + v2 b1 b0) 0) := wd_wd _ _
  have hz : Wd (0 : Int) := ⟨by decide, by decide⟩
  have H1 := Lib.hid (add_any a1 a0 b1 b0 ha1 ha0 hb1 hb0)
  have H2 := Lib.hid (shr_any 0 0 (wd (v2 a1 a0 + v2 b1 b0) 1) (wd (v2 a1 a0 + v2 b1 b0) 0) 1 hz hz hs hs0 (by decide))
  have ev : v4 0 0 (wd (v2 a1 a0 + v2 b1 b0) 1) (wd (v2 a1 a0 + v2 b1 b0) 0) = (v2 a1 a0 + v2 b1 b0) % 340282366920938463463374607431768211456 := by
    unfold v4; rw [show v2 0 0 = 0 from rfl, Nat.zero_mul, Nat.zero_add, v2_wd]
  have h2 : (2 : Nat) ^ (1 : Int).toNat = 2 := rfl
  rw [ev, h2] at H2
  have HA := Lib.hid (v2_lt ha1 ha0)
  have HB := Lib.hid (v2_lt hb1 hb0)
  clear ev h2 hs hs0 hz
  by_cases hc : 340282366920938463463374607431768211456 ≤ v2 a1 a0 + v2 b1 b0
  · have e1 : Hid (wd ((v2 a1 a0 + v2 b1 b0) / 2) 0 = wd ((v2 a1 a0 + v2 b1 b0) % 340282366920938463463374607431768211456 / 2) 0) := by
      have := HA.out; have := HB.out
      show _ = _; rw [wd0, wd0]; omega
    have e2 : Hid (bits .or .u64 (wd ((v2 a1 a0 + v2 b1 b0) % 340282366920938463463374607431768211456 / 2) 1) 9223372036854775808 = wd ((v2 a1 a0 + v2 b1 b0) / 2) 1) := by
      have := HA.out; have := HB.out
      show _ = _
      rw [show bits .or .u64 (wd ((v2 a1 a0 + v2 b1 b0) % 340282366920938463463374607431768211456 / 2) 1) 9223372036854775808 = bits .or .u64 9223372036854775808 (wd ((v2 a1 a0 + v2 b1 b0) % 340282366920938463463374607431768211456 / 2) 1) by simp only [bits, BitVec.or_comm]]
      rw [bits_join .u64 64 (by decide) (fun n h0 h1 => IntWalk.u64_in n (by omega)) 63 _ _ (by decide) (by decide) (by decide) (by rw [wd1]; omega) (by rw [wd1]; omega) (by rw [wd1]; omega), wd1, wd1]
      omega
    have t1 : decide (340282366920938463463374607431768211456 ≤ v2 a1 a0 + v2 b1 b0) = true := decide_eq_true hc
    rw [t1] at H1
    clear t1 hc
    generalize v2 a1 a0 + v2 b1 b0 = S at *
    generalize wd (S % 340282366920938463463374607431768211456 / 2) 1 = p1 at *
    generalize wd (S % 340282366920938463463374607431768211456 / 2) 0 = p0 at *
    generalize wd (S % 340282366920938463463374607431768211456 / 2) 2 = p2 at *
    generalize wd (S % 340282366920938463463374607431768211456 / 2) 3 = p3 at *
    go_enter Try.func79, Try.ntmps79
    go_wp2_with fail
    refine (H1.out _).mono ?_
    rintro e w1 ⟨rfl, hb⟩
    have hz1 : w.heap.size + 2 < w1.heap.size := by have h := hb.size; simp at h; omega
    have HB1 : Hid (Below w.heap.size w w1) := bl_trans (bl_al (bl_al (bl_al (Below.refl _ _) _) _) _) hb
    have c0 : w1.cell? ⟨w.heap.size + 2, 0, none⟩ = some (.int .u64 0) := by rw [(bcell hb).1 _ _ (by simp)]; simp [go_sem]
    have c1 : w1.cell? ⟨w.heap.size + 2, 1, none⟩ = some (.int .u64 0) := by rw [(bcell hb).1 _ _ (by simp)]; simp [go_sem]
    have z : ∀ j, w1.frozen? ⟨w.heap.size + 2, j, none⟩ = false := fun j => by rw [(bcell hb).2 _ _ (by simp), frozen?_alloc_cells, frozen?_alloc_cells, frozen?_alloc_cells]; simp [World.frozen?]
    clear hb
    go_wp2_with fail
    refine (H2.out _).mono ?_
    rintro e w2 ⟨rfl, hb⟩
    have hB : Below w1.heap.size w1 w2 := bl_trans (bl_al (Below.refl _ _) _) hb
    have hz2 : w.heap.size + 2 < w2.heap.size := Nat.lt_of_lt_of_le hz1 hB.size
    have hz3 : w.heap.size + 2 ≠ w2.heap.size := Nat.ne_of_lt hz2
    have HB2 : Hid (Below w.heap.size w w2) := bl_trans HB1.out hB
    have d0 : w2.cell? ⟨w.heap.size + 2, 0, none⟩ = some (.int .u64 0) := by rw [(bcell hB).1 _ _ hz1]; exact c0
    have d1 : w2.cell? ⟨w.heap.size + 2, 1, none⟩ = some (.int .u64 0) := by rw [(bcell hB).1 _ _ hz1]; exact c1
    have z2 : ∀ j, w2.frozen? ⟨w.heap.size + 2, j, none⟩ = false := fun j => by rw [(bcell hB).2 _ _ hz1]; exact z j
    clear hb hB c0 c1 z
    go_wp2_with fail
    refine bodyPost_ret (by simp [results, Try.results79, go_sem, *]; try rfl) rfl ?_
    refine ⟨ret_agg2 e2.out e1.out.symm, ?_⟩
    exact bl_al (Below.setCell (Below.setCell HB2.out (by simp; omega) _) (by simp; omega) _) _
  · have e1 : Hid (wd ((v2 a1 a0 + v2 b1 b0) / 2) 0 = wd ((v2 a1 a0 + v2 b1 b0) % 340282366920938463463374607431768211456 / 2) 0) := by
      show _ = _; rw [Nat.mod_eq_of_lt (by omega)]
    have e2 : Hid (wd ((v2 a1 a0 + v2 b1 b0) / 2) 1 = wd ((v2 a1 a0 + v2 b1 b0) % 340282366920938463463374607431768211456 / 2) 1) := by
      show _ = _; rw [Nat.mod_eq_of_lt (by omega)]
    have t1 : decide (340282366920938463463374607431768211456 ≤ v2 a1 a0 + v2 b1 b0) = false := decide_eq_false hc
    rw [t1] at H1
    clear t1 hc
    generalize v2 a1 a0 + v2 b1 b0 = S at *
    generalize wd (S % 340282366920938463463374607431768211456 / 2) 1 = p1 at *
    generalize wd (S % 340282366920938463463374607431768211456 / 2) 0 = p0 at *
    generalize wd (S % 340282366920938463463374607431768211456 / 2) 2 = p2 at *
    generalize wd (S % 340282366920938463463374607431768211456 / 2) 3 = p3 at *
    go_enter Try.func79, Try.ntmps79
    go_wp2_with fail
    refine (H1.out _).mono ?_
    rintro e w1 ⟨rfl, hb⟩
    have hz1 : w.heap.size + 2 < w1.heap.size := by have h := hb.size; simp at h; omega
    have HB1 : Hid (Below w.heap.size w w1) := bl_trans (bl_al (bl_al (bl_al (Below.refl _ _) _) _) _) hb
    have c0 : w1.cell? ⟨w.heap.size + 2, 0, none⟩ = some (.int .u64 0) := by rw [(bcell hb).1 _ _ (by simp)]; simp [go_sem]
    have c1 : w1.cell? ⟨w.heap.size + 2, 1, none⟩ = some (.int .u64 0) := by rw [(bcell hb).1 _ _ (by simp)]; simp [go_sem]
    have z : ∀ j, w1.frozen? ⟨w.heap.size + 2, j, none⟩ = false := fun j => by rw [(bcell hb).2 _ _ (by simp), frozen?_alloc_cells, frozen?_alloc_cells, frozen?_alloc_cells]; simp [World.frozen?]
    clear hb
    go_wp2_with fail
    refine (H2.out _).mono ?_
    rintro e w2 ⟨rfl, hb⟩
    have hB : Below w1.heap.size w1 w2 := bl_trans (bl_al (Below.refl _ _) _) hb
    have hz2 : w.heap.size + 2 < w2.heap.size := Nat.lt_of_lt_of_le hz1 hB.size
    have hz3 : w.heap.size + 2 ≠ w2.heap.size := Nat.ne_of_lt hz2
    have HB2 : Hid (Below w.heap.size w w2) := bl_trans HB1.out hB
    have d0 : w2.cell? ⟨w.heap.size + 2, 0, none⟩ = some (.int .u64 0) := by rw [(bcell hB).1 _ _ hz1]; exact c0
    have d1 : w2.cell? ⟨w.heap.size + 2, 1, none⟩ = some (.int .u64 0) := by rw [(bcell hB).1 _ _ hz1]; exact c1
    have z2 : ∀ j, w2.frozen? ⟨w.heap.size + 2, j, none⟩ = false := fun j => by rw [(bcell hB).2 _ _ hz1]; exact z j
    clear hb hB c0 c1 z
    go_wp2_with fail
    refine bodyPost_ret (by simp [results, Try.results79, go_sem, *]; try rfl) rfl ?_
    refine ⟨ret_agg2 e2.out.symm e1.out.symm, ?_⟩
    exact bl_al (Below.setCell (Below.setCell HB2.out (by simp; omega) _) (by simp; omega) _) _
end Go.Proofs.Ytmelipbanbihdaa
