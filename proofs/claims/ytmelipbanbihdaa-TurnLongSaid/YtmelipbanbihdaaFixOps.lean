/- The nearest; sums. -/
import Derived.Test.YtmelipbanbihdaaFixSize
import Derived.Test.YtmelipbanbihdaaRefSum
namespace Go.Proofs.Ytmelipbanbihdaa
open Go.RowKit

theorem ne_two (a1 a0 b1 b0 : Int) (W : World) : (Go.binOp .neq 51 (.agg #[.int .u64 a1, .int .u64 a0]) (.agg #[.int .u64 b1, .int .u64 b0])).run Try.prog W = .ok (.bool (!decide (a1 = b1 ∧ a0 = b0))) W := by
  by_cases c : a1 = b1 <;> by_cases d : a0 = b0 <;> simp [go_sem, *]
theorem near_lost (a3 a2 a1 a0 u s n1 n0 : Int)  (w : World)
    (C1 : ∀ W, Calls Try.prog 61 #[.agg #[.int .u64 a1, .int .u64 a0], .agg #[.int .u64 0, .int .u64 u]] W fun e w' => e = .returned (.tuple #[.agg #[.int .u64 n1, .int .u64 n0], .bool true]) ∧ Below W.heap.size W w') :
    Calls Try.prog 70 #[.agg #[.int .u64 a3, .int .u64 a2, .int .u64 a1, .int .u64 a0], .int .u64 u, .int .u64 s] w fun e w' => e = .returned (.tuple #[.agg #[.int .i64 0, .int .u64 0], .int .i64 3]) ∧ Below w.heap.size w w' := by
  have K1 := Lib.hid C1
  clear C1
  go_enter Try.func70, Try.ntmps70
  go_wp2_with fail
  refine (K1.out _).mono ?_; rintro e w' ⟨rfl, hb⟩; obtain ⟨hcl, hfr⟩ := bcell hb; have hz2 : w.heap.size + 1 < w'.heap.size := (by have hz := hb.size; first | (simp at hz; omega) | omega); have hz1 : w.heap.size < w'.heap.size := (by omega); have HB : Hid (Below w.heap.size w w') := (bl_trans (by repeat (first | exact Below.refl _ _ | exact Hid.out (by assumption) | with_reducible refine Below.setCell ?_ (by first | (simp; done) | omega | (simp <;> omega)) _ | with_reducible refine bl_al ?_ _ | with_reducible apply Below.drew)) hb); clear hb
  go_wp2_with fail
  refine bodyPost_ret (by simp [results, Try.results70, go_sem, *]; try rfl) rfl ?_
  exact ⟨rfl, by repeat (first | exact Below.refl _ _ | exact Hid.out (by assumption) | with_reducible refine Below.setCell ?_ (by first | (simp; done) | omega | (simp <;> omega)) _ | with_reducible refine bl_al ?_ _ | with_reducible apply Below.drew)⟩
theorem near_high (a3 a2 a1 a0 u s n1 n0 : Int) (c : ¬ (a3 = 0 ∧ a2 = 0)) (w : World)
    (C1 : ∀ W, Calls Try.prog 61 #[.agg #[.int .u64 a1, .int .u64 a0], .agg #[.int .u64 0, .int .u64 u]] W fun e w' => e = .returned (.tuple #[.agg #[.int .u64 n1, .int .u64 n0], .bool false]) ∧ Below W.heap.size W w') :
    Calls Try.prog 70 #[.agg #[.int .u64 a3, .int .u64 a2, .int .u64 a1, .int .u64 a0], .int .u64 u, .int .u64 s] w fun e w' => e = .returned (.tuple #[.agg #[.int .i64 0, .int .u64 0], .int .i64 3]) ∧ Below w.heap.size w w' := by
  have K1 := Lib.hid C1
  clear C1
  have q : ∀ W, (Go.binOp .neq 51 (.agg #[.int .u64 a3, .int .u64 a2]) (.agg #[.int .u64 0, .int .u64 0])).run Try.prog W = .ok (.bool true) W := fun W => by rw [ne_two, decide_eq_false c]; rfl
  clear c
  go_enter Try.func70, Try.ntmps70
  go_wp2_with fail
  refine (K1.out _).mono ?_; rintro e w' ⟨rfl, hb⟩; obtain ⟨hcl, hfr⟩ := bcell hb; have hz2 : w.heap.size + 1 < w'.heap.size := (by have hz := hb.size; first | (simp at hz; omega) | omega); have hz1 : w.heap.size < w'.heap.size := (by omega); have HB : Hid (Below w.heap.size w w') := (bl_trans (by repeat (first | exact Below.refl _ _ | exact Hid.out (by assumption) | with_reducible refine Below.setCell ?_ (by first | (simp; done) | omega | (simp <;> omega)) _ | with_reducible refine bl_al ?_ _ | with_reducible apply Below.drew)) hb); clear hb
  go_wp2_with fail
  refine bodyPost_ret (by simp [results, Try.results70, go_sem, *]; try rfl) rfl ?_
  exact ⟨rfl, by repeat (first | exact Below.refl _ _ | exact Hid.out (by assumption) | with_reducible refine Below.setCell ?_ (by first | (simp; done) | omega | (simp <;> omega)) _ | with_reducible refine bl_al ?_ _ | with_reducible apply Below.drew)⟩
theorem near_top (a1 a0 u s n1 n0 x : Int) (hx : n1 / 9223372036854775808 = x) (hn : x ≠ 0) (w : World)
    (C1 : ∀ W, Calls Try.prog 61 #[.agg #[.int .u64 a1, .int .u64 a0], .agg #[.int .u64 0, .int .u64 u]] W fun e w' => e = .returned (.tuple #[.agg #[.int .u64 n1, .int .u64 n0], .bool false]) ∧ Below W.heap.size W w') :
    Calls Try.prog 70 #[.agg #[.int .u64 0, .int .u64 0, .int .u64 a1, .int .u64 a0], .int .u64 u, .int .u64 s] w fun e w' => e = .returned (.tuple #[.agg #[.int .i64 0, .int .u64 0], .int .i64 3]) ∧ Below w.heap.size w w' := by
  have K1 := Lib.hid C1
  clear C1
  have q : ∀ W, (Go.binOp .neq 51 (.agg #[.int .u64 0, .int .u64 0]) (.agg #[.int .u64 0, .int .u64 0])).run Try.prog W = .ok (.bool false) W := fun W => by rw [ne_two]; rfl
  have t1 : (x != 0) = true := by rw [bne_iff_ne]; exact hn
  go_enter Try.func70, Try.ntmps70
  go_wp2_with fail
  refine (K1.out _).mono ?_; rintro e w' ⟨rfl, hb⟩; obtain ⟨hcl, hfr⟩ := bcell hb; have hz2 : w.heap.size + 1 < w'.heap.size := (by have hz := hb.size; first | (simp at hz; omega) | omega); have hz1 : w.heap.size < w'.heap.size := (by omega); have HB : Hid (Below w.heap.size w w') := (bl_trans (by repeat (first | exact Below.refl _ _ | exact Hid.out (by assumption) | with_reducible refine Below.setCell ?_ (by first | (simp; done) | omega | (simp <;> omega)) _ | with_reducible refine bl_al ?_ _ | with_reducible apply Below.drew)) hb); clear hb
  go_wp2_with fail
  refine bodyPost_ret (by simp [results, Try.results70, go_sem, *]; try rfl) rfl ?_
  exact ⟨rfl, by repeat (first | exact Below.refl _ _ | exact Hid.out (by assumption) | with_reducible refine Below.setCell ?_ (by first | (simp; done) | omega | (simp <;> omega)) _ | with_reducible refine bl_al ?_ _ | with_reducible apply Below.drew)⟩
theorem near_ok (a1 a0 u s n1 n0 t1 t0 f1 f0 : Int) (hx : n1 / 9223372036854775808 = 0) (w : World)
    (C1 : ∀ W, Calls Try.prog 61 #[.agg #[.int .u64 a1, .int .u64 a0], .agg #[.int .u64 0, .int .u64 u]] W fun e w' => e = .returned (.tuple #[.agg #[.int .u64 n1, .int .u64 n0], .bool false]) ∧ Below W.heap.size W w')
    (C2 : ∀ W, Calls Try.prog 51 #[.agg #[.int .u64 n1, .int .u64 n0], .int .u64 s] W fun e w' => e = .returned (.agg #[.int .u64 t1, .int .u64 t0]) ∧ Below W.heap.size W w')
    (C3 : ∀ W, Calls Try.prog 50 #[.agg #[.int .u64 t1, .int .u64 t0]] W fun e w' => e = .returned (.agg #[.int .i64 f1, .int .u64 f0]) ∧ Below W.heap.size W w') :
    Calls Try.prog 70 #[.agg #[.int .u64 0, .int .u64 0, .int .u64 a1, .int .u64 a0], .int .u64 u, .int .u64 s] w fun e w' => e = .returned (.tuple #[.agg #[.int .i64 f1, .int .u64 f0], .int .i64 0]) ∧ Below w.heap.size w w' := by
  have K1 := Lib.hid C1; have K2 := Lib.hid C2; have K3 := Lib.hid C3
  clear C1 C2 C3
  have q : ∀ W, (Go.binOp .neq 51 (.agg #[.int .u64 0, .int .u64 0]) (.agg #[.int .u64 0, .int .u64 0])).run Try.prog W = .ok (.bool false) W := fun W => by rw [ne_two]; rfl
  go_enter Try.func70, Try.ntmps70
  go_wp2_with fail
  refine (K1.out _).mono ?_; rintro e w' ⟨rfl, hb⟩; obtain ⟨hcl, hfr⟩ := bcell hb; have hz2 : w.heap.size + 1 < w'.heap.size := (by have hz := hb.size; first | (simp at hz; omega) | omega); have hz1 : w.heap.size < w'.heap.size := (by omega); have HB : Hid (Below w.heap.size w w') := (bl_trans (by repeat (first | exact Below.refl _ _ | exact Hid.out (by assumption) | with_reducible refine Below.setCell ?_ (by first | (simp; done) | omega | (simp <;> omega)) _ | with_reducible refine bl_al ?_ _ | with_reducible apply Below.drew)) hb); clear hb
  go_wp2_with fail
  refine (K2.out _).mono ?_; rintro e w' ⟨rfl, hb⟩; obtain ⟨hcl, hfr⟩ := bcell hb; have hz2 : w.heap.size + 1 < w'.heap.size := (by have hz := hb.size; first | (simp at hz; omega) | omega); have hz1 : w.heap.size < w'.heap.size := (by omega); have HB : Hid (Below w.heap.size w w') := (bl_trans (by repeat (first | exact Below.refl _ _ | exact Hid.out (by assumption) | with_reducible refine Below.setCell ?_ (by first | (simp; done) | omega | (simp <;> omega)) _ | with_reducible refine bl_al ?_ _ | with_reducible apply Below.drew)) hb); clear hb
  go_wp2_with fail
  refine (K3.out _).mono ?_; rintro e w' ⟨rfl, hb⟩; obtain ⟨hcl, hfr⟩ := bcell hb; have hz2 : w.heap.size + 1 < w'.heap.size := (by have hz := hb.size; first | (simp at hz; omega) | omega); have hz1 : w.heap.size < w'.heap.size := (by omega); have HB : Hid (Below w.heap.size w w') := (bl_trans (by repeat (first | exact Below.refl _ _ | exact Hid.out (by assumption) | with_reducible refine Below.setCell ?_ (by first | (simp; done) | omega | (simp <;> omega)) _ | with_reducible refine bl_al ?_ _ | with_reducible apply Below.drew)) hb); clear hb
  go_wp2_with fail
  refine bodyPost_ret (by simp [results, Try.results70, go_sem, *]; try rfl) rfl ?_
  exact ⟨rfl, by repeat (first | exact Below.refl _ _ | exact Hid.out (by assumption) | with_reducible refine Below.setCell ?_ (by first | (simp; done) | omega | (simp <;> omega)) _ | with_reducible refine bl_al ?_ _ | with_reducible apply Below.drew)⟩
theorem sg_small {s : Bool} {n : Nat} (h : n < 170141183460469231731687303715884105728) : My (sg s n) := by
  unfold sg My; cases s <;> simp <;> omega
theorem sg_big {s : Bool} {n : Nat} (h : 170141183460469231731687303715884105728 ≤ n) : ¬ My (sg s n) := by
  unfold sg My; cases s <;> simp <;> omega
theorem tn_sg {s : Bool} {n : Nat} (h : n < 170141183460469231731687303715884105728) : ((tn s n : Nat) : Int) % 340282366920938463463374607431768211456 = sg s n % 340282366920938463463374607431768211456 := by
  cases s
  · rw [tn_false]; rfl
  · rw [tn_true]; unfold sg; simp; omega
theorem fh_zero : fh 0 = 0 := rfl
theorem fl_zero : fl 0 = 0 := rfl
theorem nearest_any (a3 a2 a1 a0 : Int) (u : Nat) (s : Bool) (h3 : Wd a3) (h2 : Wd a2) (h1 : Wd a1) (h0 : Wd a0) (hu : u ≤ 1) (w : World) :
    Calls Try.prog 70 #[.agg #[.int .u64 a3, .int .u64 a2, .int .u64 a1, .int .u64 a0], .int .u64 (u : Int), .int .u64 (sw s)] w fun e w' => e = .returned (.tuple #[.agg #[.int .i64 (fh (ov (sg s ((v4 a3 a2 a1 a0 + u : Nat) : Int)))), .int .u64 (fl (ov (sg s ((v4 a3 a2 a1 a0 + u : Nat) : Int))))], .int .i64 (oe (sg s ((v4 a3 a2 a1 a0 + u : Nat) : Int)))]) ∧ Below w.heap.size w w' := by
  have C1 := add_any a1 a0 0 u h1 h0 ⟨by omega, by omega⟩ ⟨by omega, by omega⟩
  have hv := v2_lt h1 h0
  have hu2 : v2 0 (u : Int) = u := by unfold v2; omega
  rw [hu2] at C1
  have hx : v4 a3 a2 a1 a0 = v2 a3 a2 * 340282366920938463463374607431768211456 + v2 a1 a0 := rfl
  by_cases c1 : 340282366920938463463374607431768211456 ≤ v2 a1 a0 + u
  · have hb : ¬ My (sg s ((v4 a3 a2 a1 a0 + u : Nat) : Int)) := sg_big (by omega)
    rw [ov_out hb, oe_out hb, fh_zero, fl_zero]
    rw [decide_eq_true c1] at C1
    exact near_lost _ _ _ _ _ _ _ _ w C1
  rw [decide_eq_false c1] at C1
  by_cases c2 : a3 = 0 ∧ a2 = 0
  · obtain ⟨rfl, rfl⟩ := c2
    have hx0 : v4 0 0 a1 a0 = v2 a1 a0 := by rw [hx, v2_zero, Nat.zero_mul, Nat.zero_add]
    rw [hx0]
    by_cases c3 : 170141183460469231731687303715884105728 ≤ v2 a1 a0 + u
    · have hb : ¬ My (sg s ((v2 a1 a0 + u : Nat) : Int)) := sg_big c3
      rw [ov_out hb, oe_out hb, fh_zero, fl_zero]
      exact near_top _ _ _ _ _ _ _ rfl (by rw [wd1]; omega) w C1
    · have hm : My (sg s ((v2 a1 a0 + u : Nat) : Int)) := sg_small (by omega)
      rw [ov_in hm, oe_in hm]
      have C2 := turn_any _ _ s (wd_wd (v2 a1 a0 + u) 1) (wd_wd (v2 a1 a0 + u) 0)
      rw [v2_wd, Nat.mod_eq_of_lt (show v2 a1 a0 + u < 340282366920938463463374607431768211456 by omega)] at C2
      exact near_ok _ _ _ _ _ _ _ _ _ _ (by rw [wd1]; omega) w C1 C2 (ofBits_any _ _ hm.fx (tn_sg (by omega)))
  · have hv3 : 1 ≤ v2 a3 a2 := by
      obtain ⟨_, _⟩ := h3; obtain ⟨_, _⟩ := h2
      unfold v2
      omega
    have hb : ¬ My (sg s ((v4 a3 a2 a1 a0 + u : Nat) : Int)) := sg_big (by omega)
    rw [ov_out hb, oe_out hb, fh_zero, fl_zero]
    exact near_high _ _ _ _ _ _ _ _ c2 w C1
end Go.Proofs.Ytmelipbanbihdaa
