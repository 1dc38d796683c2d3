/- LimbWords: numbers of one word are added, multiplied, divided as words are. For any words, without conditions. -/
import Derived.Test.YtbpgokkdhkdabaaLaw
import Derived.Test.YtbpgokkdhkdabaaMulAny
import Derived.Deep.DeepCutAuto
namespace Go.Proofs.Ytbpgokkdhkdabaa
open Go.ChangeShapes Go.WideShapes Go.ChangeAt Go.RowKit Go.Joins

theorem eq_four_true (a3 a2 a1 a0 : Int) : ∀ W, (Go.binOp .eql 33 (.agg #[.int .u64 a3, .int .u64 a2, .int .u64 a1, .int .u64 a0]) (.agg #[.int .u64 a3, .int .u64 a2, .int .u64 a1, .int .u64 a0])).run Try.prog W = .ok (.bool true) W := fun W => by
  simp [go_sem]
set_option maxHeartbeats 4000000 in
theorem limbWords_zero (a c : Int) (ha : 0 ≤ a) (ha' : a < 4294967296) (hc : 0 ≤ c) (hc' : c < 18446744073709551616) (w : World)
    (C1 : ∀ W, Calls Try.prog 12 #[.agg #[.int .u64 0, .int .u64 a], .agg #[.int .u64 0, .int .u64 0]] W fun e w' => e = .returned (.tuple #[.agg #[.int .u64 0, .int .u64 a], .bool false]) ∧ Below W.heap.size W w')
    (C2 : ∀ W, Calls Try.prog 17 #[.agg #[.int .u64 0, .int .u64 0, .int .u64 0, .int .u64 c], .agg #[.int .u64 0, .int .u64 0]] W fun e w' => e = .returned (.tuple #[.agg #[.int .u64 0, .int .u64 0, .int .u64 0, .int .u64 0], .agg #[.int .u64 0, .int .u64 0], .bool false]) ∧ Below W.heap.size W w') :
    Calls Try.prog 10 #[.int .u32 a, .int .u32 0, .int .u64 c] w fun e w' => e = .returned (.bool true) ∧ Below w.heap.size w w' := by
  have K1 := Lib.hid C1; have K2 := Lib.hid C2
  clear C1 C2
  go_enter Try.func10, Try.ntmps10
  go_wp2_with fail
  refine (K1.out _).mono ?_
  rintro e w1 ⟨rfl, hb⟩
  have HBw1 : Hid (Below w.heap.size w w1) := bl_trans (by repeat (first | exact Below.refl _ _ | exact Hid.out (by assumption) | with_reducible refine bl_al ?_ _ | with_reducible apply Below.drew)) hb
  have h_x_w1 : Hid (Has (w.heap.size) [.int .u64 0, .int .u64 a] w1) := Has.step (Has.mk2 (by simp <;> omega) (by simp [go_sem]) (by simp [go_sem])) hb
  have h_y_w1 : Hid (Has (w.heap.size + 1) [.int .u64 0, .int .u64 0] w1) := Has.step (Has.mk2 (by simp <;> omega) (by simp [go_sem]) (by simp [go_sem])) hb
  have h_z_w1 : Hid (Has (w.heap.size + 1 + 1) [.int .u64 0, .int .u64 c] w1) := Has.step (Has.mk2 (by simp <;> omega) (by simp [go_sem]) (by simp [go_sem])) hb
  clear hb
  have h_x := h_x_w1; clear h_x_w1; have z_x := h_x.out.1; have c_x_0 := h_x.out.2 0 _ rfl; have c_x_1 := h_x.out.2 1 _ rfl
  have h_y := h_y_w1; clear h_y_w1; have z_y := h_y.out.1; have c_y_0 := h_y.out.2 0 _ rfl; have c_y_1 := h_y.out.2 1 _ rfl
  have h_z := h_z_w1; clear h_z_w1; have z_z := h_z.out.1; have c_z_0 := h_z.out.2 0 _ rfl; have c_z_1 := h_z.out.2 1 _ rfl
  go_wp2_with fail
  refine (K2.out _).mono ?_
  rintro e w2 ⟨rfl, hb⟩
  have HBw2 : Hid (Below w.heap.size w w2) := bl_trans (by repeat (first | exact Below.refl _ _ | exact Hid.out (by assumption) | with_reducible refine bl_al ?_ _ | with_reducible apply Below.drew)) hb
  have h_x_w2 : Hid (Has (w.heap.size) [.int .u64 0, .int .u64 a] w2) := h_x.out.up (by repeat (first | exact Below.refl _ _ | with_reducible refine bl_al ?_ _ | with_reducible apply Below.drew)) hb
  have h_y_w2 : Hid (Has (w.heap.size + 1) [.int .u64 0, .int .u64 0] w2) := h_y.out.up (by repeat (first | exact Below.refl _ _ | with_reducible refine bl_al ?_ _ | with_reducible apply Below.drew)) hb
  have h_z_w2 : Hid (Has (w.heap.size + 1 + 1) [.int .u64 0, .int .u64 c] w2) := h_z.out.up (by repeat (first | exact Below.refl _ _ | with_reducible refine bl_al ?_ _ | with_reducible apply Below.drew)) hb
  have h_s_w2 : Hid (Has (w1.heap.size) [.int .u64 0, .int .u64 a] w2) := Has.step (Has.mk2 (by simp <;> omega) (by simp [go_sem]) (by simp [go_sem])) hb
  clear hb
  clear h_x z_x c_x_0 c_x_1
  clear h_y z_y c_y_0 c_y_1
  clear h_z z_z c_z_0 c_z_1
  have h_x := h_x_w2; clear h_x_w2; have z_x := h_x.out.1; have c_x_0 := h_x.out.2 0 _ rfl; have c_x_1 := h_x.out.2 1 _ rfl
  have h_y := h_y_w2; clear h_y_w2; have z_y := h_y.out.1; have c_y_0 := h_y.out.2 0 _ rfl; have c_y_1 := h_y.out.2 1 _ rfl
  have h_z := h_z_w2; clear h_z_w2; have z_z := h_z.out.1; have c_z_0 := h_z.out.2 0 _ rfl; have c_z_1 := h_z.out.2 1 _ rfl
  have h_s := h_s_w2; clear h_s_w2; have z_s := h_s.out.1; have c_s_0 := h_s.out.2 0 _ rfl; have c_s_1 := h_s.out.2 1 _ rfl
  go_wp2_with fail
  refine (awake_true _).mono ?_
  rintro e w3 ⟨rfl, hb⟩
  have HBw3 : Hid (Below w.heap.size w w3) := bl_trans (by repeat (first | exact Below.refl _ _ | exact Hid.out (by assumption) | with_reducible refine bl_al ?_ _ | with_reducible apply Below.drew)) hb
  have h_x_w3 : Hid (Has (w.heap.size) [.int .u64 0, .int .u64 a] w3) := h_x.out.up (by repeat (first | exact Below.refl _ _ | with_reducible refine bl_al ?_ _ | with_reducible apply Below.drew)) hb
  have h_y_w3 : Hid (Has (w.heap.size + 1) [.int .u64 0, .int .u64 0] w3) := h_y.out.up (by repeat (first | exact Below.refl _ _ | with_reducible refine bl_al ?_ _ | with_reducible apply Below.drew)) hb
  have h_z_w3 : Hid (Has (w.heap.size + 1 + 1) [.int .u64 0, .int .u64 c] w3) := h_z.out.up (by repeat (first | exact Below.refl _ _ | with_reducible refine bl_al ?_ _ | with_reducible apply Below.drew)) hb
  have h_s_w3 : Hid (Has (w1.heap.size) [.int .u64 0, .int .u64 a] w3) := h_s.out.up (by repeat (first | exact Below.refl _ _ | with_reducible refine bl_al ?_ _ | with_reducible apply Below.drew)) hb
  clear hb
  clear h_x z_x c_x_0 c_x_1
  clear h_y z_y c_y_0 c_y_1
  clear h_z z_z c_z_0 c_z_1
  clear h_s z_s c_s_0 c_s_1
  have h_x := h_x_w3; clear h_x_w3; have z_x := h_x.out.1; have c_x_0 := h_x.out.2 0 _ rfl; have c_x_1 := h_x.out.2 1 _ rfl
  have h_y := h_y_w3; clear h_y_w3; have z_y := h_y.out.1; have c_y_0 := h_y.out.2 0 _ rfl; have c_y_1 := h_y.out.2 1 _ rfl
  have h_z := h_z_w3; clear h_z_w3; have z_z := h_z.out.1; have c_z_0 := h_z.out.2 0 _ rfl; have c_z_1 := h_z.out.2 1 _ rfl
  have h_s := h_s_w3; clear h_s_w3; have z_s := h_s.out.1; have c_s_0 := h_s.out.2 0 _ rfl; have c_s_1 := h_s.out.2 1 _ rfl
  go_wp2_with fail
  go_returns
  exact ⟨rfl, by repeat (first | exact Below.refl _ _ | exact Hid.out (by assumption) | with_reducible refine bl_al ?_ _ | with_reducible apply Below.drew)⟩
set_option maxHeartbeats 4000000 in
theorem limbWords_some (a b c M Q R : Int) (ha : 0 ≤ a) (ha' : a < 4294967296) (hb : 0 ≤ b) (hb' : b < 4294967296) (hn : b ≠ 0) (hc : 0 ≤ c) (hc' : c < 18446744073709551616) (hM : IntKind.u64.wrap (a * b) = M) (hQ : c.tdiv b = Q) (hR : c.tmod b = R) (hQ0 : 0 ≤ Q) (hQ1 : Q < 18446744073709551616) (hR0 : 0 ≤ R) (hR1 : R < 18446744073709551616) (w : World)
    (C1 : ∀ W, Calls Try.prog 12 #[.agg #[.int .u64 0, .int .u64 a], .agg #[.int .u64 0, .int .u64 b]] W fun e w' => e = .returned (.tuple #[.agg #[.int .u64 0, .int .u64 (a + b)], .bool false]) ∧ Below W.heap.size W w')
    (C2 : ∀ W, Calls Try.prog 17 #[.agg #[.int .u64 0, .int .u64 0, .int .u64 0, .int .u64 c], .agg #[.int .u64 0, .int .u64 b]] W fun e w' => e = .returned (.tuple #[.agg #[.int .u64 0, .int .u64 0, .int .u64 0, .int .u64 Q], .agg #[.int .u64 0, .int .u64 R], .bool true]) ∧ Below W.heap.size W w')
    (C3 : ∀ W, Calls Try.prog 19 #[.agg #[.int .u64 0, .int .u64 a], .agg #[.int .u64 0, .int .u64 b]] W fun e w' => e = .returned (.agg #[.int .u64 0, .int .u64 0, .int .u64 0, .int .u64 M]) ∧ Below W.heap.size W w') :
    Calls Try.prog 10 #[.int .u32 a, .int .u32 b, .int .u64 c] w fun e w' => e = .returned (.bool true) ∧ Below w.heap.size w w' := by
  have K1 := Lib.hid C1; have K2 := Lib.hid C2; have K3 := Lib.hid C3
  clear C1 C2 C3
  have u1 : IntKind.u64.wrap a = a := IntWalk.u64_in _ (by omega); have u2 : IntKind.u64.wrap b = b := IntWalk.u64_in _ (by omega); have u3 : IntKind.u64.wrap (a + b) = a + b := IntWalk.u64_in _ (by omega); have u4 : IntKind.u64.wrap Q = Q := IntWalk.u64_in _ (by omega); have u5 : IntKind.u64.wrap R = R := IntWalk.u64_in _ (by omega); have u6 : ¬ (b = 0) := hn
  have q1 := eq_two_true 0 (a + b); have q2 := eq_four_true 0 0 0 M; have q3 := eq_four_true 0 0 0 Q; have q4 := eq_two_true 0 R
  go_enter Try.func10, Try.ntmps10
  go_wp2_with fail
  refine (K1.out _).mono ?_
  rintro e w1 ⟨rfl, hb⟩
  have HBw1 : Hid (Below w.heap.size w w1) := bl_trans (by repeat (first | exact Below.refl _ _ | exact Hid.out (by assumption) | with_reducible refine bl_al ?_ _ | with_reducible apply Below.drew)) hb
  have h_x_w1 : Hid (Has (w.heap.size) [.int .u64 0, .int .u64 a] w1) := Has.step (Has.mk2 (by simp <;> omega) (by simp [go_sem]) (by simp [go_sem])) hb
  have h_y_w1 : Hid (Has (w.heap.size + 1) [.int .u64 0, .int .u64 b] w1) := Has.step (Has.mk2 (by simp <;> omega) (by simp [go_sem]) (by simp [go_sem])) hb
  have h_z_w1 : Hid (Has (w.heap.size + 1 + 1) [.int .u64 0, .int .u64 c] w1) := Has.step (Has.mk2 (by simp <;> omega) (by simp [go_sem]) (by simp [go_sem])) hb
  clear hb
  have h_x := h_x_w1; clear h_x_w1; have z_x := h_x.out.1; have c_x_0 := h_x.out.2 0 _ rfl; have c_x_1 := h_x.out.2 1 _ rfl
  have h_y := h_y_w1; clear h_y_w1; have z_y := h_y.out.1; have c_y_0 := h_y.out.2 0 _ rfl; have c_y_1 := h_y.out.2 1 _ rfl
  have h_z := h_z_w1; clear h_z_w1; have z_z := h_z.out.1; have c_z_0 := h_z.out.2 0 _ rfl; have c_z_1 := h_z.out.2 1 _ rfl
  go_wp2_with fail
  refine (K2.out _).mono ?_
  rintro e w2 ⟨rfl, hb⟩
  have HBw2 : Hid (Below w.heap.size w w2) := bl_trans (by repeat (first | exact Below.refl _ _ | exact Hid.out (by assumption) | with_reducible refine bl_al ?_ _ | with_reducible apply Below.drew)) hb
  have h_x_w2 : Hid (Has (w.heap.size) [.int .u64 0, .int .u64 a] w2) := h_x.out.up (by repeat (first | exact Below.refl _ _ | with_reducible refine bl_al ?_ _ | with_reducible apply Below.drew)) hb
  have h_y_w2 : Hid (Has (w.heap.size + 1) [.int .u64 0, .int .u64 b] w2) := h_y.out.up (by repeat (first | exact Below.refl _ _ | with_reducible refine bl_al ?_ _ | with_reducible apply Below.drew)) hb
  have h_z_w2 : Hid (Has (w.heap.size + 1 + 1) [.int .u64 0, .int .u64 c] w2) := h_z.out.up (by repeat (first | exact Below.refl _ _ | with_reducible refine bl_al ?_ _ | with_reducible apply Below.drew)) hb
  have h_s_w2 : Hid (Has (w1.heap.size) [.int .u64 0, .int .u64 (a + b)] w2) := Has.step (Has.mk2 (by simp <;> omega) (by simp [go_sem]) (by simp [go_sem])) hb
  clear hb
  clear h_x z_x c_x_0 c_x_1
  clear h_y z_y c_y_0 c_y_1
  clear h_z z_z c_z_0 c_z_1
  have h_x := h_x_w2; clear h_x_w2; have z_x := h_x.out.1; have c_x_0 := h_x.out.2 0 _ rfl; have c_x_1 := h_x.out.2 1 _ rfl
  have h_y := h_y_w2; clear h_y_w2; have z_y := h_y.out.1; have c_y_0 := h_y.out.2 0 _ rfl; have c_y_1 := h_y.out.2 1 _ rfl
  have h_z := h_z_w2; clear h_z_w2; have z_z := h_z.out.1; have c_z_0 := h_z.out.2 0 _ rfl; have c_z_1 := h_z.out.2 1 _ rfl
  have h_s := h_s_w2; clear h_s_w2; have z_s := h_s.out.1; have c_s_0 := h_s.out.2 0 _ rfl; have c_s_1 := h_s.out.2 1 _ rfl
  go_upto_region 6 with fail
  go_region_held3 (fun w' => w'.cell? ⟨w.heap.size, 0, none⟩ = some (.int .u64 0) ∧ w'.cell? ⟨w.heap.size, 1, none⟩ = some (.int .u64 a) ∧ w'.cell? ⟨w.heap.size + 1, 0, none⟩ = some (.int .u64 0) ∧ w'.cell? ⟨w.heap.size + 1, 1, none⟩ = some (.int .u64 b) ∧ w'.cell? ⟨w1.heap.size, 0, none⟩ = some (.int .u64 0) ∧ w'.cell? ⟨w1.heap.size, 1, none⟩ = some (.int .u64 (a + b)) ∧ w'.cell? ⟨w2.heap.size, 0, none⟩ = some (.int .u64 0) ∧ w'.cell? ⟨w2.heap.size, 1, none⟩ = some (.int .u64 0) ∧ w'.cell? ⟨w2.heap.size, 2, none⟩ = some (.int .u64 0) ∧ w'.cell? ⟨w2.heap.size, 3, none⟩ = some (.int .u64 Q) ∧ w'.cell? ⟨w2.heap.size + 1, 0, none⟩ = some (.int .u64 0) ∧ w'.cell? ⟨w2.heap.size + 1, 1, none⟩ = some (.int .u64 R)) (simp [*, go_sem])
    (first
      | (go_at_call 19; refine (K3.out _).mono ?_; rintro e w3 ⟨rfl, hb⟩; have HBw3 : Hid (Below w.heap.size w w3) := bl_trans (by repeat (first | exact Below.refl _ _ | exact Hid.out (by assumption) | with_reducible refine bl_al ?_ _ | with_reducible apply Below.drew)) hb; have h_x_w3 : Hid (Has (w.heap.size) [.int .u64 0, .int .u64 a] w3) := h_x.out.up (by repeat (first | exact Below.refl _ _ | with_reducible refine bl_al ?_ _ | with_reducible apply Below.drew)) hb; have h_y_w3 : Hid (Has (w.heap.size + 1) [.int .u64 0, .int .u64 b] w3) := h_y.out.up (by repeat (first | exact Below.refl _ _ | with_reducible refine bl_al ?_ _ | with_reducible apply Below.drew)) hb; have h_z_w3 : Hid (Has (w.heap.size + 1 + 1) [.int .u64 0, .int .u64 c] w3) := h_z.out.up (by repeat (first | exact Below.refl _ _ | with_reducible refine bl_al ?_ _ | with_reducible apply Below.drew)) hb; have h_s_w3 : Hid (Has (w1.heap.size) [.int .u64 0, .int .u64 (a + b)] w3) := h_s.out.up (by repeat (first | exact Below.refl _ _ | with_reducible refine bl_al ?_ _ | with_reducible apply Below.drew)) hb; have h_q_w3 : Hid (Has (w2.heap.size) [.int .u64 0, .int .u64 0, .int .u64 0, .int .u64 Q] w3) := Has.step (Has.mk4 (by simp <;> omega) (by simp [go_sem]) (by simp [go_sem]) (by simp [go_sem]) (by simp [go_sem])) hb; have h_r_w3 : Hid (Has (w2.heap.size + 1) [.int .u64 0, .int .u64 R] w3) := Has.step (Has.mk2 (by simp <;> omega) (by simp [go_sem]) (by simp [go_sem])) hb; clear hb; clear h_x z_x c_x_0 c_x_1; clear h_y z_y c_y_0 c_y_1; clear h_z z_z c_z_0 c_z_1; clear h_s z_s c_s_0 c_s_1; have h_x := h_x_w3; clear h_x_w3; have z_x := h_x.out.1; have c_x_0 := h_x.out.2 0 _ rfl; have c_x_1 := h_x.out.2 1 _ rfl; have h_y := h_y_w3; clear h_y_w3; have z_y := h_y.out.1; have c_y_0 := h_y.out.2 0 _ rfl; have c_y_1 := h_y.out.2 1 _ rfl; have h_z := h_z_w3; clear h_z_w3; have z_z := h_z.out.1; have c_z_0 := h_z.out.2 0 _ rfl; have c_z_1 := h_z.out.2 1 _ rfl; have h_s := h_s_w3; clear h_s_w3; have z_s := h_s.out.1; have c_s_0 := h_s.out.2 0 _ rfl; have c_s_1 := h_s.out.2 1 _ rfl; have h_q := h_q_w3; clear h_q_w3; have z_q := h_q.out.1; have c_q_0 := h_q.out.2 0 _ rfl; have c_q_1 := h_q.out.2 1 _ rfl; have c_q_2 := h_q.out.2 2 _ rfl; have c_q_3 := h_q.out.2 3 _ rfl; have h_r := h_r_w3; clear h_r_w3; have z_r := h_r.out.1; have c_r_0 := h_r.out.2 0 _ rfl; have c_r_1 := h_r.out.2 1 _ rfl)
      | (go_at_call 16; refine (awake_true _).mono ?_; rintro e w4 ⟨rfl, hb⟩; have HBw4 : Hid (Below w.heap.size w w4) := bl_trans (by repeat (first | exact Below.refl _ _ | exact Hid.out (by assumption) | with_reducible refine bl_al ?_ _ | with_reducible apply Below.drew)) hb; have h_x_w4 : Hid (Has (w.heap.size) [.int .u64 0, .int .u64 a] w4) := h_x.out.up (by repeat (first | exact Below.refl _ _ | with_reducible refine bl_al ?_ _ | with_reducible apply Below.drew)) hb; have h_y_w4 : Hid (Has (w.heap.size + 1) [.int .u64 0, .int .u64 b] w4) := h_y.out.up (by repeat (first | exact Below.refl _ _ | with_reducible refine bl_al ?_ _ | with_reducible apply Below.drew)) hb; have h_z_w4 : Hid (Has (w.heap.size + 1 + 1) [.int .u64 0, .int .u64 c] w4) := h_z.out.up (by repeat (first | exact Below.refl _ _ | with_reducible refine bl_al ?_ _ | with_reducible apply Below.drew)) hb; have h_s_w4 : Hid (Has (w1.heap.size) [.int .u64 0, .int .u64 (a + b)] w4) := h_s.out.up (by repeat (first | exact Below.refl _ _ | with_reducible refine bl_al ?_ _ | with_reducible apply Below.drew)) hb; have h_q_w4 : Hid (Has (w2.heap.size) [.int .u64 0, .int .u64 0, .int .u64 0, .int .u64 Q] w4) := h_q.out.up (by repeat (first | exact Below.refl _ _ | with_reducible refine bl_al ?_ _ | with_reducible apply Below.drew)) hb; have h_r_w4 : Hid (Has (w2.heap.size + 1) [.int .u64 0, .int .u64 R] w4) := h_r.out.up (by repeat (first | exact Below.refl _ _ | with_reducible refine bl_al ?_ _ | with_reducible apply Below.drew)) hb; clear hb; clear h_x z_x c_x_0 c_x_1; clear h_y z_y c_y_0 c_y_1; clear h_z z_z c_z_0 c_z_1; clear h_s z_s c_s_0 c_s_1; clear h_q z_q c_q_0 c_q_1 c_q_2 c_q_3; clear h_r z_r c_r_0 c_r_1; have h_x := h_x_w4; clear h_x_w4; have z_x := h_x.out.1; have c_x_0 := h_x.out.2 0 _ rfl; have c_x_1 := h_x.out.2 1 _ rfl; have h_y := h_y_w4; clear h_y_w4; have z_y := h_y.out.1; have c_y_0 := h_y.out.2 0 _ rfl; have c_y_1 := h_y.out.2 1 _ rfl; have h_z := h_z_w4; clear h_z_w4; have z_z := h_z.out.1; have c_z_0 := h_z.out.2 0 _ rfl; have c_z_1 := h_z.out.2 1 _ rfl; have h_s := h_s_w4; clear h_s_w4; have z_s := h_s.out.1; have c_s_0 := h_s.out.2 0 _ rfl; have c_s_1 := h_s.out.2 1 _ rfl; have h_q := h_q_w4; clear h_q_w4; have z_q := h_q.out.1; have c_q_0 := h_q.out.2 0 _ rfl; have c_q_1 := h_q.out.2 1 _ rfl; have c_q_2 := h_q.out.2 2 _ rfl; have c_q_3 := h_q.out.2 3 _ rfl; have h_r := h_r_w4; clear h_r_w4; have z_r := h_r.out.1; have c_r_0 := h_r.out.2 0 _ rfl; have c_r_1 := h_r.out.2 1 _ rfl))
  rename_i hHeld
  clear hHeld
  go_wp2_with fail
  go_returns
  exact ⟨rfl, by repeat (first | exact Below.refl _ _ | exact Hid.out (by assumption) | with_reducible refine bl_al ?_ _ | with_reducible apply Below.drew)⟩
theorem nat_of_u32 {x : Int} (h : (Lit.int .u32 x).wf = true) : ∃ n : Nat, x = n ∧ n < 4294967296 := by
  simp [Lit.wf, IntKind.min, IntKind.max, IntKind.signed, IntKind.bits] at h
  exact ⟨x.toNat, by omega, by omega⟩
theorem nat_of_u64 {x : Int} (h : (Lit.int .u64 x).wf = true) : ∃ n : Nat, x = n ∧ n < 18446744073709551616 := by
  simp [Lit.wf, IntKind.min, IntKind.max, IntKind.signed, IntKind.bits] at h
  exact ⟨x.toNat, by omega, by omega⟩
theorem low_word {n : Nat} (h : n < 18446744073709551616) : wd n 3 = 0 ∧ wd n 2 = 0 ∧ wd n 1 = 0 ∧ wd n 0 = n := by
  rw [wd3, wd2, wd1, wd0]; refine ⟨?_, ?_, ?_, ?_⟩ <;> omega
theorem limbWords_walk (a b c : Int) (ka : (Lit.int .u32 a).wf = true) (kb : (Lit.int .u32 b).wf = true) (kc : (Lit.int .u64 c).wf = true) (w : World) :
    Calls Try.prog 10 #[.int .u32 a, .int .u32 b, .int .u64 c] w fun e w' => e = .returned (.bool true) ∧ Below w.heap.size w w' := by
  obtain ⟨a, rfl, ha⟩ := nat_of_u32 ka; obtain ⟨b, rfl, hb⟩ := nat_of_u32 kb; obtain ⟨c, rfl, hc⟩ := nat_of_u64 kc
  clear ka kb kc
  have z : Wd 0 := ⟨by omega, by omega⟩
  have wa : Wd (a : Int) := ⟨by omega, by omega⟩
  have wb : Wd (b : Int) := ⟨by omega, by omega⟩
  have wc : Wd (c : Int) := ⟨by omega, by omega⟩
  have va : v2 0 (a : Int) = a := by unfold v2; omega
  have vb : v2 0 (b : Int) = b := by unfold v2; omega
  have vc2 : v2 0 (c : Int) = c := by unfold v2; omega
  have vc : v4 0 0 0 (c : Int) = c := by unfold v4; rw [show v2 0 0 = 0 from rfl, vc2, Nat.zero_mul, Nat.zero_add]
  have C1 := add_any 0 a 0 b z wa z wb
  rw [va, vb] at C1
  obtain ⟨_, _, s1, s0⟩ := low_word (show a + b < 18446744073709551616 by omega)
  rw [s1, s0, decide_eq_false (by omega), Int.natCast_add] at C1
  by_cases h : b = 0
  · subst h
    rw [show ((0 : Nat) : Int) = 0 from rfl, Int.add_zero] at C1
    exact limbWords_zero a c (by omega) (by omega) (by omega) (by omega) w C1 (div_zero 0 0 0 c)
  · have C2 := div_any 0 0 0 c 0 b z z z wc z wb (by rw [vb]; exact h)
    rw [vb, vc] at C2
    have q := Nat.div_le_self c b
    have r := Nat.mod_le c b
    obtain ⟨q3, q2, q1, q0⟩ := low_word (Nat.lt_of_le_of_lt q hc)
    obtain ⟨r3, r2, r1, r0⟩ := low_word (Nat.lt_of_le_of_lt r hc)
    rw [q3, q2, q1, q0, r1, r0] at C2
    have C3 := mul_any 0 a 0 b z wa z wb
    rw [va, vb] at C3
    have m : a * b < 18446744073709551616 := Nat.mul_lt_mul'' (c := 4294967296) (d := 4294967296) ha hb
    obtain ⟨p3, p2, p1, p0⟩ := low_word m
    rw [p3, p2, p1, p0] at C3
    have t1 : (c : Int).tdiv (b : Int) = ((c / b : Nat) : Int) := rfl
    have t2 : (c : Int).tmod (b : Int) = ((c % b : Nat) : Int) := rfl
    generalize c / b = Q at *
    generalize c % b = R at *
    exact limbWords_some a b c ((a * b : Nat) : Int) Q R (by omega) (by omega) (by omega) (by omega) (by omega) (by omega) (by omega) (by rw [← Int.natCast_mul]; exact IntWalk.u64_in _ (by omega)) t1 t2 (by omega) (by omega) (by omega) (by omega) w C1 C2 C3

set_option maxRecDepth 100000 in
theorem limbWords_lifted (os : Os) (started : os.Started) (H : Type) (enc : TypeId × Value → H) :
    ReturnsInHanded {} Try.checked os 10 .any (Rows.limbWordsSpec.pre6 enc Try.prog Try.f10 Rows.limbWordsRow.domain false) (Rows.limbWordsSpec.post enc Try.prog Try.f10 false true false false) := by
  refine returnsInHanded_of_change (C := Try.checked) Try.own started (by kernel_rfl) Try.func10
    (ChangeSpec.witness6 (enc := enc) (C := Try.checked) false ⟨#[], #[.int .u32 0, .int .u32 0, .int .u64 0], []⟩ 8 (by kernel_rfl) (by kernel_rfl) (by kernel_rfl) (by kernel_rfl)) ?_
  intro W base args ds gs before hval0 hW hcnd _
  have hval : ∀ (j : Nat) t v, Try.f10.params[j]? = some t → args[j]? = some v → Value.okWide Try.prog W .any base t v := hval0
  have hW' := hW
  obtain ⟨p, q, hA0, hV, rfl, hfz, hnd⟩ := hW
  have hA : DataW.TrodAll enc Try.prog W 0 (fun _ => true) true Try.f10.params.toList args.toList ds p := hA0
  rw [Try.params10] at hA hval
  obtain ⟨v0, v1, v2, d0, d1, d2, p0, p1, p2, rfl, rfl, rfl, h0, h1, h2⟩ := trodAll_three hA
  obtain ⟨rfl, rfl⟩ := trodVars_none hV
  obtain ⟨a, rfl, rfl, rfl, k00⟩ := open_int Try.underlying49 (hval 0 49 v0 rfl rfl) h0
  obtain ⟨b, rfl, rfl, rfl, k10⟩ := open_int Try.underlying49 (hval 1 49 v1 rfl rfl) h1
  obtain ⟨c, rfl, rfl, rfl, k20⟩ := open_int Try.underlying22 (hval 2 22 v2 rfl rfl) h2
  clear hA0 hval0
  simp only [List.append_nil] at hW'
  refine (limbWords_walk a b c k00 k10 k20 W).mono fun e W' ⟨he, hb⟩ => ?_
  subst he
  exact ⟨_, rfl, _, _, _, [], [], [], hW', trodAll_mk1 (shut_bool Try.underlying4 _), trodAll_mk3 (shut_int Try.underlying49 k00) (shut_int Try.underlying49 k10) (shut_int Try.underlying22 k20), rfl, hb.frame _, fun h => by cases h⟩

theorem limbWords_holds : Rows.LimbWordsSaid :=
  OpenClaim.holds_of_wide 10 Try.f10 rfl rfl rfl rfl rfl rfl rfl ⟨rfl, rfl, rfl, rfl, rfl⟩ rfl rfl rfl rfl rfl (by kernel_rfl) Try.func10 (by kernel_rfl)
    (of_decide_eq_true (by kernel_rfl)) (by unfold Func.isWrapper; first | (rw [if_pos (by decide +kernel)]; kernel_rfl) | (rw [if_neg (by decide +kernel)]; exact ⟨rfl, rfl⟩))
    (fun os started H enc _ => limbWords_lifted os started H enc)
end Go.Proofs.Ytbpgokkdhkdabaa
