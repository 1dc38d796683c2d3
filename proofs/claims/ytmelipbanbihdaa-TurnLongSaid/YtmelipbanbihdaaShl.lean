/- What Shl comes to. -/
import Derived.Test.YtmelipbanbihdaaLimb
namespace Go.Proofs.Ytmelipbanbihdaa
open Go.RowKit
theorem shl_low (a3 a2 a1 a0 : Int) (h3 : Wd a3) (h2 : Wd a2) (h1 : Wd a1) (h0 : Wd a0) (n : Int) (hn0 : n ≤ 0) (w : World) :
    Calls Try.prog 66 #[.agg #[.int .u64 a3, .int .u64 a2, .int .u64 a1, .int .u64 a0], .int .i64 n] w fun e w' =>
      e = .returned (.agg #[.int .u64 (wd (v4 a3 a2 a1 a0 * 2 ^ n.toNat) 3), .int .u64 (wd (v4 a3 a2 a1 a0 * 2 ^ n.toNat) 2), .int .u64 (wd (v4 a3 a2 a1 a0 * 2 ^ n.toNat) 1), .int .u64 (wd (v4 a3 a2 a1 a0 * 2 ^ n.toNat) 0)]) ∧ Below w.heap.size w w' := by
  rw [show n.toNat = 0 by omega, Nat.pow_zero, Nat.mul_one, wd_v4_3 h3 h2 h1 h0, wd_v4_2 h3 h2 h1 h0, wd_v4_1 h3 h2 h1 h0, wd_v4_0 h3 h2 h1 h0]
  go_enter Try.func66, Try.ntmps66
  go_wp2
  go_returns
  exact ⟨rfl, by go_grown⟩
set_option maxHeartbeats 1000000 in
theorem shl_big (a3 a2 a1 a0 : Int) (_ : Wd a3) (_ : Wd a2) (_ : Wd a1) (_ : Wd a0) (n : Int) (hn0 : 256 ≤ n) (hn1 : n < 9223372036854775808) (w : World) :
    Calls Try.prog 66 #[.agg #[.int .u64 a3, .int .u64 a2, .int .u64 a1, .int .u64 a0], .int .i64 n] w fun e w' =>
      e = .returned (.agg #[.int .u64 (wd (v4 a3 a2 a1 a0 * 2 ^ n.toNat) 3), .int .u64 (wd (v4 a3 a2 a1 a0 * 2 ^ n.toNat) 2), .int .u64 (wd (v4 a3 a2 a1 a0 * 2 ^ n.toNat) 1), .int .u64 (wd (v4 a3 a2 a1 a0 * 2 ^ n.toNat) 0)]) ∧ Below w.heap.size w w' := by
  have k0 : ¬ n ≤ 0 := by omega
  have k1 : ¬ n / 64 < 4 := by omega
  have k2 : 0 ≤ n := by omega
  go_enter Try.func66, Try.ntmps66
  go_wp2_with (first | (go_at_call 80; refine (words_any _ _ _ _ _).mono ?_; rintro e w' ⟨rfl, hb⟩; obtain ⟨hcl, hfr⟩ := bcell hb; have hz2 : w.heap.size + 1 < w'.heap.size := (by have hz := hb.size; simp at hz; omega); have hz1 : w.heap.size < w'.heap.size := (by omega); have HB : Hid (Below w.heap.size w w') := (bl_trans (by repeat (first | exact Below.refl _ _ | exact Hid.out (by assumption) | with_reducible refine bl_al ?_ _ | with_reducible apply Below.drew)) hb); clear hb))
  refine wp_loop_rounds 1 ?_
  rw [rounds_succ]; go_wp2_with (first | (go_at_call 81; refine (fourOfWords_any _ _ _ _ _).mono ?_; rintro e w'' ⟨rfl, hb⟩; have hB : Below w'.heap.size w' w'' := (bl_trans (by repeat (first | exact Below.refl _ _ | with_reducible refine bl_al ?_ _ | with_reducible apply Below.drew)) hb); obtain ⟨hcl2, hfr2⟩ := bcell hB; have hz2' : w.heap.size + 1 < w''.heap.size := (by have hz := hB.size; omega); have hz1' : w.heap.size < w''.heap.size := (by omega); have HB2 : Hid (Below w.heap.size w w'') := (bl_trans HB.out hB); clear hb hB))
  refine bodyPost_ret (by simp [results, Try.results66, go_sem, *]; try rfl) rfl ?_
  refine ⟨ret_agg4 (by rw [show n.toNat = 64 * (n.toNat / 64) + n.toNat % 64 by omega]; exact (shl_none (by omega)).symm) (by rw [show n.toNat = 64 * (n.toNat / 64) + n.toNat % 64 by omega]; exact (shl_none (by omega)).symm) (by rw [show n.toNat = 64 * (n.toNat / 64) + n.toNat % 64 by omega]; exact (shl_none (by omega)).symm) (by rw [show n.toNat = 64 * (n.toNat / 64) + n.toNat % 64 by omega]; exact (shl_none (by omega)).symm), ?_⟩
  exact Below.setCell (Below.setCell (Below.setCell (Below.setCell HB2.out (by simp) _) (by simp) _) (by simp) _) (by simp) _
set_option maxHeartbeats 1000000 in
theorem shl_0 (a3 a2 a1 a0 : Int) (r : Nat) (h3 : Wd a3) (h2 : Wd a2) (h1 : Wd a1) (h0 : Wd a0) (hr : r < 64) (hr0 : 0 < r) (n : Int) (hn : n = 0 + r) (w : World) :
    Calls Try.prog 66 #[.agg #[.int .u64 a3, .int .u64 a2, .int .u64 a1, .int .u64 a0], .int .i64 n] w fun e w' =>
      e = .returned (.agg #[.int .u64 (wd (v4 a3 a2 a1 a0 * 2 ^ n.toNat) 3), .int .u64 (wd (v4 a3 a2 a1 a0 * 2 ^ n.toNat) 2), .int .u64 (wd (v4 a3 a2 a1 a0 * 2 ^ n.toNat) 1), .int .u64 (wd (v4 a3 a2 a1 a0 * 2 ^ n.toNat) 0)]) ∧ Below w.heap.size w w' := by
  rw [show n.toNat = 64 * 0 + r by omega]
  have hn0 : 0 < n := by omega
  have hn1 : n < 256 := by omega
  have hr1 : (r : Int) < 64 := by omega
  have hr2 : (0 : Int) ≤ 64 - (r : Int) := by omega
  have hr3 : (r : Int) ≤ 64 := by omega
  have hr4 : r ≤ 64 := by omega
  have hq : n / 64 = 0 := by omega
  have hm : n % 64 = (r : Int) := by omega
  have hq2 : n.tdiv 64 = 0 := by rw [Int.tdiv_eq_ediv_of_nonneg (by omega)]; omega
  have hm2 : n.tmod 64 = (r : Int) := by rw [Int.tmod_eq_emod_of_nonneg (by omega)]; omega
  have hq3 : IntKind.i64.wrap (n.tdiv 64) = 0 := by rw [hq2]; rfl
  have hr5 : IntKind.i64.wrap (64 - (r : Int)) = 64 - (r : Int) := IntWalk.i64_in _ (by omega)
  clear hn
  go_enter Try.func66, Try.ntmps66
  go_wp2_with (first | (go_at_call 80; refine (words_any _ _ _ _ _).mono ?_; rintro e w' ⟨rfl, hb⟩; obtain ⟨hcl, hfr⟩ := bcell hb; have hz2 : w.heap.size + 1 < w'.heap.size := (by have hz := hb.size; simp at hz; omega); have hz1 : w.heap.size < w'.heap.size := (by omega); have HB : Hid (Below w.heap.size w w') := (bl_trans (by repeat (first | exact Below.refl _ _ | exact Hid.out (by assumption) | with_reducible refine bl_al ?_ _ | with_reducible apply Below.drew)) hb); clear hb))
  refine wp_loop_rounds 5 ?_
  repeat (first | (rw [rounds_succ]; go_wp2_with (first | (go_at_call 81; refine (fourOfWords_any _ _ _ _ _).mono ?_; rintro e w'' ⟨rfl, hb⟩; have hB : Below w'.heap.size w' w'' := (bl_trans (by repeat (first | exact Below.refl _ _ | with_reducible refine bl_al ?_ _ | with_reducible apply Below.drew)) hb); obtain ⟨hcl2, hfr2⟩ := bcell hB; have hz2' : w.heap.size + 1 < w''.heap.size := (by have hz := hB.size; omega); have hz1' : w.heap.size < w''.heap.size := (by omega); have HB2 : Hid (Below w.heap.size w w'') := (bl_trans HB.out hB); clear hb hB))) | (go_region; go_wp2_with (first | (go_at_call 81; refine (fourOfWords_any _ _ _ _ _).mono ?_; rintro e w'' ⟨rfl, hb⟩; have hB : Below w'.heap.size w' w'' := (bl_trans (by repeat (first | exact Below.refl _ _ | with_reducible refine bl_al ?_ _ | with_reducible apply Below.drew)) hb); obtain ⟨hcl2, hfr2⟩ := bcell hB; have hz2' : w.heap.size + 1 < w''.heap.size := (by have hz := hB.size; omega); have hz1' : w.heap.size < w''.heap.size := (by omega); have HB2 : Hid (Below w.heap.size w w'') := (bl_trans HB.out hB); clear hb hB))))
  refine bodyPost_ret (by simp [results, Try.results66, go_sem, *]; try rfl) rfl ?_
  refine ⟨ret_agg4 (by rw [show wd (v4 a3 a2 a1 a0 * 2 ^ (64 * 0 + r)) 3 = _ from shl_hi (v4 a3 a2 a1 a0) 0 r 2 (by omega), wd_v4_2 h3 h2 h1 h0, wd_v4_3 h3 h2 h1 h0]) (by rw [show wd (v4 a3 a2 a1 a0 * 2 ^ (64 * 0 + r)) 2 = _ from shl_hi (v4 a3 a2 a1 a0) 0 r 1 (by omega), wd_v4_1 h3 h2 h1 h0, wd_v4_2 h3 h2 h1 h0]) (by rw [show wd (v4 a3 a2 a1 a0 * 2 ^ (64 * 0 + r)) 1 = _ from shl_hi (v4 a3 a2 a1 a0) 0 r 0 (by omega), wd_v4_0 h3 h2 h1 h0, wd_v4_1 h3 h2 h1 h0]) (by rw [show wd (v4 a3 a2 a1 a0 * 2 ^ (64 * 0 + r)) 0 = _ from shl_lo (v4 a3 a2 a1 a0) 0 r, wd_v4_0 h3 h2 h1 h0]), ?_⟩
  exact Below.setCell (Below.setCell (Below.setCell (Below.setCell HB2.out (by simp) _) (by simp) _) (by simp) _) (by simp) _
set_option maxHeartbeats 1000000 in
theorem shl_1 (a3 a2 a1 a0 : Int) (r : Nat) (h3 : Wd a3) (h2 : Wd a2) (h1 : Wd a1) (h0 : Wd a0) (hr : r < 64) (n : Int) (hn : n = 64 + r) (w : World) :
    Calls Try.prog 66 #[.agg #[.int .u64 a3, .int .u64 a2, .int .u64 a1, .int .u64 a0], .int .i64 n] w fun e w' =>
      e = .returned (.agg #[.int .u64 (wd (v4 a3 a2 a1 a0 * 2 ^ n.toNat) 3), .int .u64 (wd (v4 a3 a2 a1 a0 * 2 ^ n.toNat) 2), .int .u64 (wd (v4 a3 a2 a1 a0 * 2 ^ n.toNat) 1), .int .u64 (wd (v4 a3 a2 a1 a0 * 2 ^ n.toNat) 0)]) ∧ Below w.heap.size w w' := by
  rw [show n.toNat = 64 * 1 + r by omega]
  have hn0 : 0 < n := by omega
  have hn1 : n < 256 := by omega
  have hr1 : (r : Int) < 64 := by omega
  have hr2 : (0 : Int) ≤ 64 - (r : Int) := by omega
  have hr3 : (r : Int) ≤ 64 := by omega
  have hr4 : r ≤ 64 := by omega
  have hq : n / 64 = 1 := by omega
  have hm : n % 64 = (r : Int) := by omega
  have hq2 : n.tdiv 64 = 1 := by rw [Int.tdiv_eq_ediv_of_nonneg (by omega)]; omega
  have hm2 : n.tmod 64 = (r : Int) := by rw [Int.tmod_eq_emod_of_nonneg (by omega)]; omega
  have hq3 : IntKind.i64.wrap (n.tdiv 64) = 1 := by rw [hq2]; rfl
  have hr5 : IntKind.i64.wrap (64 - (r : Int)) = 64 - (r : Int) := IntWalk.i64_in _ (by omega)
  clear hn
  go_enter Try.func66, Try.ntmps66
  go_wp2_with (first | (go_at_call 80; refine (words_any _ _ _ _ _).mono ?_; rintro e w' ⟨rfl, hb⟩; obtain ⟨hcl, hfr⟩ := bcell hb; have hz2 : w.heap.size + 1 < w'.heap.size := (by have hz := hb.size; simp at hz; omega); have hz1 : w.heap.size < w'.heap.size := (by omega); have HB : Hid (Below w.heap.size w w') := (bl_trans (by repeat (first | exact Below.refl _ _ | exact Hid.out (by assumption) | with_reducible refine bl_al ?_ _ | with_reducible apply Below.drew)) hb); clear hb))
  refine wp_loop_rounds 5 ?_
  repeat (first | (rw [rounds_succ]; go_wp2_with (first | (go_at_call 81; refine (fourOfWords_any _ _ _ _ _).mono ?_; rintro e w'' ⟨rfl, hb⟩; have hB : Below w'.heap.size w' w'' := (bl_trans (by repeat (first | exact Below.refl _ _ | with_reducible refine bl_al ?_ _ | with_reducible apply Below.drew)) hb); obtain ⟨hcl2, hfr2⟩ := bcell hB; have hz2' : w.heap.size + 1 < w''.heap.size := (by have hz := hB.size; omega); have hz1' : w.heap.size < w''.heap.size := (by omega); have HB2 : Hid (Below w.heap.size w w'') := (bl_trans HB.out hB); clear hb hB))) | (go_region; go_wp2_with (first | (go_at_call 81; refine (fourOfWords_any _ _ _ _ _).mono ?_; rintro e w'' ⟨rfl, hb⟩; have hB : Below w'.heap.size w' w'' := (bl_trans (by repeat (first | exact Below.refl _ _ | with_reducible refine bl_al ?_ _ | with_reducible apply Below.drew)) hb); obtain ⟨hcl2, hfr2⟩ := bcell hB; have hz2' : w.heap.size + 1 < w''.heap.size := (by have hz := hB.size; omega); have hz1' : w.heap.size < w''.heap.size := (by omega); have HB2 : Hid (Below w.heap.size w w'') := (bl_trans HB.out hB); clear hb hB))))
  refine bodyPost_ret (by simp [results, Try.results66, go_sem, *]; try rfl) rfl ?_
  refine ⟨ret_agg4 (by rw [show wd (v4 a3 a2 a1 a0 * 2 ^ (64 * 1 + r)) 3 = _ from shl_hi (v4 a3 a2 a1 a0) 1 r 1 (by omega), wd_v4_1 h3 h2 h1 h0, wd_v4_2 h3 h2 h1 h0]) (by rw [show wd (v4 a3 a2 a1 a0 * 2 ^ (64 * 1 + r)) 2 = _ from shl_hi (v4 a3 a2 a1 a0) 1 r 0 (by omega), wd_v4_0 h3 h2 h1 h0, wd_v4_1 h3 h2 h1 h0]) (by rw [show wd (v4 a3 a2 a1 a0 * 2 ^ (64 * 1 + r)) 1 = _ from shl_lo (v4 a3 a2 a1 a0) 1 r, wd_v4_0 h3 h2 h1 h0]) (shl_none (V := v4 a3 a2 a1 a0) (q := 1) (r := r) (i := 0) (by decide)).symm, ?_⟩
  exact Below.setCell (Below.setCell (Below.setCell (Below.setCell HB2.out (by simp) _) (by simp) _) (by simp) _) (by simp) _
set_option maxHeartbeats 1000000 in
theorem shl_2 (a3 a2 a1 a0 : Int) (r : Nat) (h3 : Wd a3) (h2 : Wd a2) (h1 : Wd a1) (h0 : Wd a0) (hr : r < 64) (n : Int) (hn : n = 128 + r) (w : World) :
    Calls Try.prog 66 #[.agg #[.int .u64 a3, .int .u64 a2, .int .u64 a1, .int .u64 a0], .int .i64 n] w fun e w' =>
      e = .returned (.agg #[.int .u64 (wd (v4 a3 a2 a1 a0 * 2 ^ n.toNat) 3), .int .u64 (wd (v4 a3 a2 a1 a0 * 2 ^ n.toNat) 2), .int .u64 (wd (v4 a3 a2 a1 a0 * 2 ^ n.toNat) 1), .int .u64 (wd (v4 a3 a2 a1 a0 * 2 ^ n.toNat) 0)]) ∧ Below w.heap.size w w' := by
  rw [show n.toNat = 64 * 2 + r by omega]
  have hn0 : 0 < n := by omega
  have hn1 : n < 256 := by omega
  have hr1 : (r : Int) < 64 := by omega
  have hr2 : (0 : Int) ≤ 64 - (r : Int) := by omega
  have hr3 : (r : Int) ≤ 64 := by omega
  have hr4 : r ≤ 64 := by omega
  have hq : n / 64 = 2 := by omega
  have hm : n % 64 = (r : Int) := by omega
  have hq2 : n.tdiv 64 = 2 := by rw [Int.tdiv_eq_ediv_of_nonneg (by omega)]; omega
  have hm2 : n.tmod 64 = (r : Int) := by rw [Int.tmod_eq_emod_of_nonneg (by omega)]; omega
  have hq3 : IntKind.i64.wrap (n.tdiv 64) = 2 := by rw [hq2]; rfl
  have hr5 : IntKind.i64.wrap (64 - (r : Int)) = 64 - (r : Int) := IntWalk.i64_in _ (by omega)
  clear hn
  go_enter Try.func66, Try.ntmps66
  go_wp2_with (first | (go_at_call 80; refine (words_any _ _ _ _ _).mono ?_; rintro e w' ⟨rfl, hb⟩; obtain ⟨hcl, hfr⟩ := bcell hb; have hz2 : w.heap.size + 1 < w'.heap.size := (by have hz := hb.size; simp at hz; omega); have hz1 : w.heap.size < w'.heap.size := (by omega); have HB : Hid (Below w.heap.size w w') := (bl_trans (by repeat (first | exact Below.refl _ _ | exact Hid.out (by assumption) | with_reducible refine bl_al ?_ _ | with_reducible apply Below.drew)) hb); clear hb))
  refine wp_loop_rounds 5 ?_
  repeat (first | (rw [rounds_succ]; go_wp2_with (first | (go_at_call 81; refine (fourOfWords_any _ _ _ _ _).mono ?_; rintro e w'' ⟨rfl, hb⟩; have hB : Below w'.heap.size w' w'' := (bl_trans (by repeat (first | exact Below.refl _ _ | with_reducible refine bl_al ?_ _ | with_reducible apply Below.drew)) hb); obtain ⟨hcl2, hfr2⟩ := bcell hB; have hz2' : w.heap.size + 1 < w''.heap.size := (by have hz := hB.size; omega); have hz1' : w.heap.size < w''.heap.size := (by omega); have HB2 : Hid (Below w.heap.size w w'') := (bl_trans HB.out hB); clear hb hB))) | (go_region; go_wp2_with (first | (go_at_call 81; refine (fourOfWords_any _ _ _ _ _).mono ?_; rintro e w'' ⟨rfl, hb⟩; have hB : Below w'.heap.size w' w'' := (bl_trans (by repeat (first | exact Below.refl _ _ | with_reducible refine bl_al ?_ _ | with_reducible apply Below.drew)) hb); obtain ⟨hcl2, hfr2⟩ := bcell hB; have hz2' : w.heap.size + 1 < w''.heap.size := (by have hz := hB.size; omega); have hz1' : w.heap.size < w''.heap.size := (by omega); have HB2 : Hid (Below w.heap.size w w'') := (bl_trans HB.out hB); clear hb hB))))
  refine bodyPost_ret (by simp [results, Try.results66, go_sem, *]; try rfl) rfl ?_
  refine ⟨ret_agg4 (by rw [show wd (v4 a3 a2 a1 a0 * 2 ^ (64 * 2 + r)) 3 = _ from shl_hi (v4 a3 a2 a1 a0) 2 r 0 (by omega), wd_v4_0 h3 h2 h1 h0, wd_v4_1 h3 h2 h1 h0]) (by rw [show wd (v4 a3 a2 a1 a0 * 2 ^ (64 * 2 + r)) 2 = _ from shl_lo (v4 a3 a2 a1 a0) 2 r, wd_v4_0 h3 h2 h1 h0]) (shl_none (V := v4 a3 a2 a1 a0) (q := 2) (r := r) (i := 1) (by decide)).symm (shl_none (V := v4 a3 a2 a1 a0) (q := 2) (r := r) (i := 0) (by decide)).symm, ?_⟩
  exact Below.setCell (Below.setCell (Below.setCell (Below.setCell HB2.out (by simp) _) (by simp) _) (by simp) _) (by simp) _
set_option maxHeartbeats 1000000 in
theorem shl_3 (a3 a2 a1 a0 : Int) (r : Nat) (h3 : Wd a3) (h2 : Wd a2) (h1 : Wd a1) (h0 : Wd a0) (hr : r < 64) (n : Int) (hn : n = 192 + r) (w : World) :
    Calls Try.prog 66 #[.agg #[.int .u64 a3, .int .u64 a2, .int .u64 a1, .int .u64 a0], .int .i64 n] w fun e w' =>
      e = .returned (.agg #[.int .u64 (wd (v4 a3 a2 a1 a0 * 2 ^ n.toNat) 3), .int .u64 (wd (v4 a3 a2 a1 a0 * 2 ^ n.toNat) 2), .int .u64 (wd (v4 a3 a2 a1 a0 * 2 ^ n.toNat) 1), .int .u64 (wd (v4 a3 a2 a1 a0 * 2 ^ n.toNat) 0)]) ∧ Below w.heap.size w w' := by
  rw [show n.toNat = 64 * 3 + r by omega]
  have hn0 : 0 < n := by omega
  have hn1 : n < 256 := by omega
  have hr1 : (r : Int) < 64 := by omega
  have hr2 : (0 : Int) ≤ 64 - (r : Int) := by omega
  have hr3 : (r : Int) ≤ 64 := by omega
  have hr4 : r ≤ 64 := by omega
  have hq : n / 64 = 3 := by omega
  have hm : n % 64 = (r : Int) := by omega
  have hq2 : n.tdiv 64 = 3 := by rw [Int.tdiv_eq_ediv_of_nonneg (by omega)]; omega
  have hm2 : n.tmod 64 = (r : Int) := by rw [Int.tmod_eq_emod_of_nonneg (by omega)]; omega
  have hq3 : IntKind.i64.wrap (n.tdiv 64) = 3 := by rw [hq2]; rfl
  have hr5 : IntKind.i64.wrap (64 - (r : Int)) = 64 - (r : Int) := IntWalk.i64_in _ (by omega)
  clear hn
  go_enter Try.func66, Try.ntmps66
  go_wp2_with (first | (go_at_call 80; refine (words_any _ _ _ _ _).mono ?_; rintro e w' ⟨rfl, hb⟩; obtain ⟨hcl, hfr⟩ := bcell hb; have hz2 : w.heap.size + 1 < w'.heap.size := (by have hz := hb.size; simp at hz; omega); have hz1 : w.heap.size < w'.heap.size := (by omega); have HB : Hid (Below w.heap.size w w') := (bl_trans (by repeat (first | exact Below.refl _ _ | exact Hid.out (by assumption) | with_reducible refine bl_al ?_ _ | with_reducible apply Below.drew)) hb); clear hb))
  refine wp_loop_rounds 5 ?_
  repeat (first | (rw [rounds_succ]; go_wp2_with (first | (go_at_call 81; refine (fourOfWords_any _ _ _ _ _).mono ?_; rintro e w'' ⟨rfl, hb⟩; have hB : Below w'.heap.size w' w'' := (bl_trans (by repeat (first | exact Below.refl _ _ | with_reducible refine bl_al ?_ _ | with_reducible apply Below.drew)) hb); obtain ⟨hcl2, hfr2⟩ := bcell hB; have hz2' : w.heap.size + 1 < w''.heap.size := (by have hz := hB.size; omega); have hz1' : w.heap.size < w''.heap.size := (by omega); have HB2 : Hid (Below w.heap.size w w'') := (bl_trans HB.out hB); clear hb hB))) | (go_region; go_wp2_with (first | (go_at_call 81; refine (fourOfWords_any _ _ _ _ _).mono ?_; rintro e w'' ⟨rfl, hb⟩; have hB : Below w'.heap.size w' w'' := (bl_trans (by repeat (first | exact Below.refl _ _ | with_reducible refine bl_al ?_ _ | with_reducible apply Below.drew)) hb); obtain ⟨hcl2, hfr2⟩ := bcell hB; have hz2' : w.heap.size + 1 < w''.heap.size := (by have hz := hB.size; omega); have hz1' : w.heap.size < w''.heap.size := (by omega); have HB2 : Hid (Below w.heap.size w w'') := (bl_trans HB.out hB); clear hb hB))))
  refine bodyPost_ret (by simp [results, Try.results66, go_sem, *]; try rfl) rfl ?_
  refine ⟨ret_agg4 (by rw [show wd (v4 a3 a2 a1 a0 * 2 ^ (64 * 3 + r)) 3 = _ from shl_lo (v4 a3 a2 a1 a0) 3 r, wd_v4_0 h3 h2 h1 h0]) (shl_none (V := v4 a3 a2 a1 a0) (q := 3) (r := r) (i := 2) (by decide)).symm (shl_none (V := v4 a3 a2 a1 a0) (q := 3) (r := r) (i := 1) (by decide)).symm (shl_none (V := v4 a3 a2 a1 a0) (q := 3) (r := r) (i := 0) (by decide)).symm, ?_⟩
  exact Below.setCell (Below.setCell (Below.setCell (Below.setCell HB2.out (by simp) _) (by simp) _) (by simp) _) (by simp) _
theorem shl_any (a3 a2 a1 a0 n : Int) (h3 : Wd a3) (h2 : Wd a2) (h1 : Wd a1) (h0 : Wd a0) (hn : n < 9223372036854775808) (w : World) :
    Calls Try.prog 66 #[.agg #[.int .u64 a3, .int .u64 a2, .int .u64 a1, .int .u64 a0], .int .i64 n] w fun e w' =>
      e = .returned (.agg #[.int .u64 (wd (v4 a3 a2 a1 a0 * 2 ^ n.toNat) 3), .int .u64 (wd (v4 a3 a2 a1 a0 * 2 ^ n.toNat) 2), .int .u64 (wd (v4 a3 a2 a1 a0 * 2 ^ n.toNat) 1), .int .u64 (wd (v4 a3 a2 a1 a0 * 2 ^ n.toNat) 0)]) ∧ Below w.heap.size w w' := by
  by_cases c : n ≤ 0
  · exact shl_low a3 a2 a1 a0 h3 h2 h1 h0 n c w
  by_cases c4 : 256 ≤ n
  · exact shl_big a3 a2 a1 a0 h3 h2 h1 h0 n c4 hn w
  rcases (show n / 64 = 0 ∨ n / 64 = 1 ∨ n / 64 = 2 ∨ n / 64 = 3 by omega) with k | k | k | k
  · exact shl_0 a3 a2 a1 a0 (n % 64).toNat h3 h2 h1 h0 (by omega) (by omega) n (by omega) w
  · exact shl_1 a3 a2 a1 a0 (n % 64).toNat h3 h2 h1 h0 (by omega) n (by omega) w
  · exact shl_2 a3 a2 a1 a0 (n % 64).toNat h3 h2 h1 h0 (by omega) n (by omega) w
  · exact shl_3 a3 a2 a1 a0 (n % 64).toNat h3 h2 h1 h0 (by omega) n (by omega) w
end Go.Proofs.Ytmelipbanbihdaa
