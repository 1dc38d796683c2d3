/- LimbRoots: a root squared is at most the number, and that of one more is above it. For any number of four words, without conditions. -/
import Derived.Test.YtbpgokkdhkdabaaLaw
import Derived.Test.YtbpgokkdhkdabaaMulAny
import Derived.Deep.DeepCutAuto
namespace Go.Proofs.Ytbpgokkdhkdabaa
open Go.ChangeShapes Go.WideShapes Go.ChangeAt Go.RowKit Go.Joins

set_option maxHeartbeats 4000000 in
theorem limbRoots_room (a3 a2 a1 a0 s1 s0 n1 n0 p3 p2 p1 p0 q3 q2 q1 q0 x y : Int) (hx : x ≤ 0) (hy : 0 < y) (w : World)
    (C1 : ∀ W, Calls Try.prog 29 #[.agg #[.int .u64 a3, .int .u64 a2, .int .u64 a1, .int .u64 a0]] W fun e w' => e = .returned (.agg #[.int .u64 s1, .int .u64 s0]) ∧ Below W.heap.size W w')
    (C2 : ∀ W, Calls Try.prog 19 #[.agg #[.int .u64 s1, .int .u64 s0], .agg #[.int .u64 s1, .int .u64 s0]] W fun e w' => e = .returned (.agg #[.int .u64 p3, .int .u64 p2, .int .u64 p1, .int .u64 p0]) ∧ Below W.heap.size W w')
    (C3 : ∀ W, Calls Try.prog 25 #[.agg #[.int .u64 p3, .int .u64 p2, .int .u64 p1, .int .u64 p0], .agg #[.int .u64 a3, .int .u64 a2, .int .u64 a1, .int .u64 a0]] W fun e w' => e = .returned (.int .i64 x) ∧ Below W.heap.size W w')
    (C4 : ∀ W, Calls Try.prog 12 #[.agg #[.int .u64 s1, .int .u64 s0], .agg #[.int .u64 0, .int .u64 1]] W fun e w' => e = .returned (.tuple #[.agg #[.int .u64 n1, .int .u64 n0], .bool false]) ∧ Below W.heap.size W w')
    (C5 : ∀ W, Calls Try.prog 19 #[.agg #[.int .u64 n1, .int .u64 n0], .agg #[.int .u64 n1, .int .u64 n0]] W fun e w' => e = .returned (.agg #[.int .u64 q3, .int .u64 q2, .int .u64 q1, .int .u64 q0]) ∧ Below W.heap.size W w')
    (C6 : ∀ W, Calls Try.prog 25 #[.agg #[.int .u64 q3, .int .u64 q2, .int .u64 q1, .int .u64 q0], .agg #[.int .u64 a3, .int .u64 a2, .int .u64 a1, .int .u64 a0]] W fun e w' => e = .returned (.int .i64 y) ∧ Below W.heap.size W w') :
    Calls Try.prog 8 #[.agg #[.int .u64 a3, .int .u64 a2, .int .u64 a1, .int .u64 a0]] w fun e w' => e = .returned (.bool true) ∧ Below w.heap.size w w' := by
  have K1 := Lib.hid C1; have K2 := Lib.hid C2; have K3 := Lib.hid C3; have K4 := Lib.hid C4; have K5 := Lib.hid C5; have K6 := Lib.hid C6
  clear C1 C2 C3 C4 C5 C6
  have d1 : decide (x > 0) = false := by simp; omega
  have d2 : decide (y > 0) = true := by simp; omega
  go_enter Try.func8, Try.ntmps8
  go_wp2_with fail
  refine (K1.out _).mono ?_
  rintro e w1 ⟨rfl, hb⟩
  have HBw1 : Hid (Below w.heap.size w w1) := bl_trans (by repeat (first | exact Below.refl _ _ | exact Hid.out (by assumption) | with_reducible refine bl_al ?_ _ | with_reducible apply Below.drew)) hb
  have h_a_w1 : Hid (Has (w.heap.size) [.int .u64 a3, .int .u64 a2, .int .u64 a1, .int .u64 a0] w1) := Has.step (Has.mk4 (by simp <;> omega) (by simp [go_sem]) (by simp [go_sem]) (by simp [go_sem]) (by simp [go_sem])) hb
  clear hb
  have h_a := h_a_w1; clear h_a_w1; have z_a := h_a.out.1; have c_a_0 := h_a.out.2 0 _ rfl; have c_a_1 := h_a.out.2 1 _ rfl; have c_a_2 := h_a.out.2 2 _ rfl; have c_a_3 := h_a.out.2 3 _ rfl
  go_upto_region 2 with fail
  go_region_held3 (fun w' => w'.cell? ⟨w.heap.size, 0, none⟩ = some (.int .u64 a3) ∧ w'.cell? ⟨w.heap.size, 1, none⟩ = some (.int .u64 a2) ∧ w'.cell? ⟨w.heap.size, 2, none⟩ = some (.int .u64 a1) ∧ w'.cell? ⟨w.heap.size, 3, none⟩ = some (.int .u64 a0) ∧ w'.cell? ⟨w1.heap.size, 0, none⟩ = some (.int .u64 s1) ∧ w'.cell? ⟨w1.heap.size, 1, none⟩ = some (.int .u64 s0)) (simp [*, go_sem])
    (first
      | (go_at_call 19; refine (K2.out _).mono ?_; rintro e w2 ⟨rfl, hb⟩; have HBw2 : Hid (Below w.heap.size w w2) := bl_trans (by repeat (first | exact Below.refl _ _ | exact Hid.out (by assumption) | with_reducible refine bl_al ?_ _ | with_reducible apply Below.drew)) hb; have h_a_w2 : Hid (Has (w.heap.size) [.int .u64 a3, .int .u64 a2, .int .u64 a1, .int .u64 a0] w2) := h_a.out.up (by repeat (first | exact Below.refl _ _ | with_reducible refine bl_al ?_ _ | with_reducible apply Below.drew)) hb; have h_s_w2 : Hid (Has (w1.heap.size) [.int .u64 s1, .int .u64 s0] w2) := Has.step (Has.mk2 (by simp <;> omega) (by simp [go_sem]) (by simp [go_sem])) hb; clear hb; clear h_a z_a c_a_0 c_a_1 c_a_2 c_a_3; have h_a := h_a_w2; clear h_a_w2; have z_a := h_a.out.1; have c_a_0 := h_a.out.2 0 _ rfl; have c_a_1 := h_a.out.2 1 _ rfl; have c_a_2 := h_a.out.2 2 _ rfl; have c_a_3 := h_a.out.2 3 _ rfl; have h_s := h_s_w2; clear h_s_w2; have z_s := h_s.out.1; have c_s_0 := h_s.out.2 0 _ rfl; have c_s_1 := h_s.out.2 1 _ rfl)
      | (go_at_call 25; refine (K3.out _).mono ?_; rintro e w3 ⟨rfl, hb⟩; have HBw3 : Hid (Below w.heap.size w w3) := bl_trans (by repeat (first | exact Below.refl _ _ | exact Hid.out (by assumption) | with_reducible refine bl_al ?_ _ | with_reducible apply Below.drew)) hb; have h_a_w3 : Hid (Has (w.heap.size) [.int .u64 a3, .int .u64 a2, .int .u64 a1, .int .u64 a0] w3) := h_a.out.up (by repeat (first | exact Below.refl _ _ | with_reducible refine bl_al ?_ _ | with_reducible apply Below.drew)) hb; have h_s_w3 : Hid (Has (w1.heap.size) [.int .u64 s1, .int .u64 s0] w3) := h_s.out.up (by repeat (first | exact Below.refl _ _ | with_reducible refine bl_al ?_ _ | with_reducible apply Below.drew)) hb; clear hb; clear h_a z_a c_a_0 c_a_1 c_a_2 c_a_3; clear h_s z_s c_s_0 c_s_1; have h_a := h_a_w3; clear h_a_w3; have z_a := h_a.out.1; have c_a_0 := h_a.out.2 0 _ rfl; have c_a_1 := h_a.out.2 1 _ rfl; have c_a_2 := h_a.out.2 2 _ rfl; have c_a_3 := h_a.out.2 3 _ rfl; have h_s := h_s_w3; clear h_s_w3; have z_s := h_s.out.1; have c_s_0 := h_s.out.2 0 _ rfl; have c_s_1 := h_s.out.2 1 _ rfl))
  rename_i hHeld
  clear hHeld
  go_wp2_with fail
  refine (K4.out _).mono ?_
  rintro e w4 ⟨rfl, hb⟩
  have HBw4 : Hid (Below w.heap.size w w4) := bl_trans (by repeat (first | exact Below.refl _ _ | exact Hid.out (by assumption) | with_reducible refine bl_al ?_ _ | with_reducible apply Below.drew)) hb
  have h_a_w4 : Hid (Has (w.heap.size) [.int .u64 a3, .int .u64 a2, .int .u64 a1, .int .u64 a0] w4) := h_a.out.up (by repeat (first | exact Below.refl _ _ | with_reducible refine bl_al ?_ _ | with_reducible apply Below.drew)) hb
  have h_s_w4 : Hid (Has (w1.heap.size) [.int .u64 s1, .int .u64 s0] w4) := h_s.out.up (by repeat (first | exact Below.refl _ _ | with_reducible refine bl_al ?_ _ | with_reducible apply Below.drew)) hb
  clear hb
  clear h_a z_a c_a_0 c_a_1 c_a_2 c_a_3
  clear h_s z_s c_s_0 c_s_1
  have h_a := h_a_w4; clear h_a_w4; have z_a := h_a.out.1; have c_a_0 := h_a.out.2 0 _ rfl; have c_a_1 := h_a.out.2 1 _ rfl; have c_a_2 := h_a.out.2 2 _ rfl; have c_a_3 := h_a.out.2 3 _ rfl
  have h_s := h_s_w4; clear h_s_w4; have z_s := h_s.out.1; have c_s_0 := h_s.out.2 0 _ rfl; have c_s_1 := h_s.out.2 1 _ rfl
  go_upto_region 5 with fail
  go_region_held3 (fun w' => w'.cell? ⟨w.heap.size, 0, none⟩ = some (.int .u64 a3) ∧ w'.cell? ⟨w.heap.size, 1, none⟩ = some (.int .u64 a2) ∧ w'.cell? ⟨w.heap.size, 2, none⟩ = some (.int .u64 a1) ∧ w'.cell? ⟨w.heap.size, 3, none⟩ = some (.int .u64 a0) ∧ w'.cell? ⟨w4.heap.size, 0, none⟩ = some (.int .u64 n1) ∧ w'.cell? ⟨w4.heap.size, 1, none⟩ = some (.int .u64 n0)) (simp [*, go_sem])
    (first
      | (go_at_call 19; refine (K5.out _).mono ?_; rintro e w5 ⟨rfl, hb⟩; have HBw5 : Hid (Below w.heap.size w w5) := bl_trans (by repeat (first | exact Below.refl _ _ | exact Hid.out (by assumption) | with_reducible refine bl_al ?_ _ | with_reducible apply Below.drew)) hb; have h_a_w5 : Hid (Has (w.heap.size) [.int .u64 a3, .int .u64 a2, .int .u64 a1, .int .u64 a0] w5) := h_a.out.up (by repeat (first | exact Below.refl _ _ | with_reducible refine bl_al ?_ _ | with_reducible apply Below.drew)) hb; have h_s_w5 : Hid (Has (w1.heap.size) [.int .u64 s1, .int .u64 s0] w5) := h_s.out.up (by repeat (first | exact Below.refl _ _ | with_reducible refine bl_al ?_ _ | with_reducible apply Below.drew)) hb; have h_n_w5 : Hid (Has (w4.heap.size) [.int .u64 n1, .int .u64 n0] w5) := Has.step (Has.mk2 (by simp <;> omega) (by simp [go_sem]) (by simp [go_sem])) hb; clear hb; clear h_a z_a c_a_0 c_a_1 c_a_2 c_a_3; clear h_s z_s c_s_0 c_s_1; have h_a := h_a_w5; clear h_a_w5; have z_a := h_a.out.1; have c_a_0 := h_a.out.2 0 _ rfl; have c_a_1 := h_a.out.2 1 _ rfl; have c_a_2 := h_a.out.2 2 _ rfl; have c_a_3 := h_a.out.2 3 _ rfl; have h_s := h_s_w5; clear h_s_w5; have z_s := h_s.out.1; have c_s_0 := h_s.out.2 0 _ rfl; have c_s_1 := h_s.out.2 1 _ rfl; have h_n := h_n_w5; clear h_n_w5; have z_n := h_n.out.1; have c_n_0 := h_n.out.2 0 _ rfl; have c_n_1 := h_n.out.2 1 _ rfl)
      | (go_at_call 25; refine (K6.out _).mono ?_; rintro e w6 ⟨rfl, hb⟩; have HBw6 : Hid (Below w.heap.size w w6) := bl_trans (by repeat (first | exact Below.refl _ _ | exact Hid.out (by assumption) | with_reducible refine bl_al ?_ _ | with_reducible apply Below.drew)) hb; have h_a_w6 : Hid (Has (w.heap.size) [.int .u64 a3, .int .u64 a2, .int .u64 a1, .int .u64 a0] w6) := h_a.out.up (by repeat (first | exact Below.refl _ _ | with_reducible refine bl_al ?_ _ | with_reducible apply Below.drew)) hb; have h_s_w6 : Hid (Has (w1.heap.size) [.int .u64 s1, .int .u64 s0] w6) := h_s.out.up (by repeat (first | exact Below.refl _ _ | with_reducible refine bl_al ?_ _ | with_reducible apply Below.drew)) hb; have h_n_w6 : Hid (Has (w4.heap.size) [.int .u64 n1, .int .u64 n0] w6) := h_n.out.up (by repeat (first | exact Below.refl _ _ | with_reducible refine bl_al ?_ _ | with_reducible apply Below.drew)) hb; clear hb; clear h_a z_a c_a_0 c_a_1 c_a_2 c_a_3; clear h_s z_s c_s_0 c_s_1; clear h_n z_n c_n_0 c_n_1; have h_a := h_a_w6; clear h_a_w6; have z_a := h_a.out.1; have c_a_0 := h_a.out.2 0 _ rfl; have c_a_1 := h_a.out.2 1 _ rfl; have c_a_2 := h_a.out.2 2 _ rfl; have c_a_3 := h_a.out.2 3 _ rfl; have h_s := h_s_w6; clear h_s_w6; have z_s := h_s.out.1; have c_s_0 := h_s.out.2 0 _ rfl; have c_s_1 := h_s.out.2 1 _ rfl; have h_n := h_n_w6; clear h_n_w6; have z_n := h_n.out.1; have c_n_0 := h_n.out.2 0 _ rfl; have c_n_1 := h_n.out.2 1 _ rfl)
      | (go_at_call 16; refine (awake_true _).mono ?_; rintro e w7 ⟨rfl, hb⟩; have HBw7 : Hid (Below w.heap.size w w7) := bl_trans (by repeat (first | exact Below.refl _ _ | exact Hid.out (by assumption) | with_reducible refine bl_al ?_ _ | with_reducible apply Below.drew)) hb; have h_a_w7 : Hid (Has (w.heap.size) [.int .u64 a3, .int .u64 a2, .int .u64 a1, .int .u64 a0] w7) := h_a.out.up (by repeat (first | exact Below.refl _ _ | with_reducible refine bl_al ?_ _ | with_reducible apply Below.drew)) hb; have h_s_w7 : Hid (Has (w1.heap.size) [.int .u64 s1, .int .u64 s0] w7) := h_s.out.up (by repeat (first | exact Below.refl _ _ | with_reducible refine bl_al ?_ _ | with_reducible apply Below.drew)) hb; have h_n_w7 : Hid (Has (w4.heap.size) [.int .u64 n1, .int .u64 n0] w7) := h_n.out.up (by repeat (first | exact Below.refl _ _ | with_reducible refine bl_al ?_ _ | with_reducible apply Below.drew)) hb; clear hb; clear h_a z_a c_a_0 c_a_1 c_a_2 c_a_3; clear h_s z_s c_s_0 c_s_1; clear h_n z_n c_n_0 c_n_1; have h_a := h_a_w7; clear h_a_w7; have z_a := h_a.out.1; have c_a_0 := h_a.out.2 0 _ rfl; have c_a_1 := h_a.out.2 1 _ rfl; have c_a_2 := h_a.out.2 2 _ rfl; have c_a_3 := h_a.out.2 3 _ rfl; have h_s := h_s_w7; clear h_s_w7; have z_s := h_s.out.1; have c_s_0 := h_s.out.2 0 _ rfl; have c_s_1 := h_s.out.2 1 _ rfl; have h_n := h_n_w7; clear h_n_w7; have z_n := h_n.out.1; have c_n_0 := h_n.out.2 0 _ rfl; have c_n_1 := h_n.out.2 1 _ rfl))
  rename_i hHeld
  clear hHeld
  go_wp2_with fail
  go_returns
  exact ⟨rfl, by repeat (first | exact Below.refl _ _ | exact Hid.out (by assumption) | with_reducible refine bl_al ?_ _ | with_reducible apply Below.drew)⟩
set_option maxHeartbeats 4000000 in
theorem limbRoots_over (a3 a2 a1 a0 s1 s0 n1 n0 p3 p2 p1 p0 q3 q2 q1 q0 x y : Int) (hx : x ≤ 0) (hy : 0 < y) (w : World)
    (C1 : ∀ W, Calls Try.prog 29 #[.agg #[.int .u64 a3, .int .u64 a2, .int .u64 a1, .int .u64 a0]] W fun e w' => e = .returned (.agg #[.int .u64 s1, .int .u64 s0]) ∧ Below W.heap.size W w')
    (C2 : ∀ W, Calls Try.prog 19 #[.agg #[.int .u64 s1, .int .u64 s0], .agg #[.int .u64 s1, .int .u64 s0]] W fun e w' => e = .returned (.agg #[.int .u64 p3, .int .u64 p2, .int .u64 p1, .int .u64 p0]) ∧ Below W.heap.size W w')
    (C3 : ∀ W, Calls Try.prog 25 #[.agg #[.int .u64 p3, .int .u64 p2, .int .u64 p1, .int .u64 p0], .agg #[.int .u64 a3, .int .u64 a2, .int .u64 a1, .int .u64 a0]] W fun e w' => e = .returned (.int .i64 x) ∧ Below W.heap.size W w')
    (C4 : ∀ W, Calls Try.prog 12 #[.agg #[.int .u64 s1, .int .u64 s0], .agg #[.int .u64 0, .int .u64 1]] W fun e w' => e = .returned (.tuple #[.agg #[.int .u64 n1, .int .u64 n0], .bool true]) ∧ Below W.heap.size W w') :
    Calls Try.prog 8 #[.agg #[.int .u64 a3, .int .u64 a2, .int .u64 a1, .int .u64 a0]] w fun e w' => e = .returned (.bool true) ∧ Below w.heap.size w w' := by
  have K1 := Lib.hid C1; have K2 := Lib.hid C2; have K3 := Lib.hid C3; have K4 := Lib.hid C4
  clear C1 C2 C3 C4
  have d1 : decide (x > 0) = false := by simp; omega
  have d2 : decide (y > 0) = true := by simp; omega
  go_enter Try.func8, Try.ntmps8
  go_wp2_with fail
  refine (K1.out _).mono ?_
  rintro e w1 ⟨rfl, hb⟩
  have HBw1 : Hid (Below w.heap.size w w1) := bl_trans (by repeat (first | exact Below.refl _ _ | exact Hid.out (by assumption) | with_reducible refine bl_al ?_ _ | with_reducible apply Below.drew)) hb
  have h_a_w1 : Hid (Has (w.heap.size) [.int .u64 a3, .int .u64 a2, .int .u64 a1, .int .u64 a0] w1) := Has.step (Has.mk4 (by simp <;> omega) (by simp [go_sem]) (by simp [go_sem]) (by simp [go_sem]) (by simp [go_sem])) hb
  clear hb
  have h_a := h_a_w1; clear h_a_w1; have z_a := h_a.out.1; have c_a_0 := h_a.out.2 0 _ rfl; have c_a_1 := h_a.out.2 1 _ rfl; have c_a_2 := h_a.out.2 2 _ rfl; have c_a_3 := h_a.out.2 3 _ rfl
  go_upto_region 2 with fail
  go_region_held3 (fun w' => w'.cell? ⟨w.heap.size, 0, none⟩ = some (.int .u64 a3) ∧ w'.cell? ⟨w.heap.size, 1, none⟩ = some (.int .u64 a2) ∧ w'.cell? ⟨w.heap.size, 2, none⟩ = some (.int .u64 a1) ∧ w'.cell? ⟨w.heap.size, 3, none⟩ = some (.int .u64 a0) ∧ w'.cell? ⟨w1.heap.size, 0, none⟩ = some (.int .u64 s1) ∧ w'.cell? ⟨w1.heap.size, 1, none⟩ = some (.int .u64 s0)) (simp [*, go_sem])
    (first
      | (go_at_call 19; refine (K2.out _).mono ?_; rintro e w2 ⟨rfl, hb⟩; have HBw2 : Hid (Below w.heap.size w w2) := bl_trans (by repeat (first | exact Below.refl _ _ | exact Hid.out (by assumption) | with_reducible refine bl_al ?_ _ | with_reducible apply Below.drew)) hb; have h_a_w2 : Hid (Has (w.heap.size) [.int .u64 a3, .int .u64 a2, .int .u64 a1, .int .u64 a0] w2) := h_a.out.up (by repeat (first | exact Below.refl _ _ | with_reducible refine bl_al ?_ _ | with_reducible apply Below.drew)) hb; have h_s_w2 : Hid (Has (w1.heap.size) [.int .u64 s1, .int .u64 s0] w2) := Has.step (Has.mk2 (by simp <;> omega) (by simp [go_sem]) (by simp [go_sem])) hb; clear hb; clear h_a z_a c_a_0 c_a_1 c_a_2 c_a_3; have h_a := h_a_w2; clear h_a_w2; have z_a := h_a.out.1; have c_a_0 := h_a.out.2 0 _ rfl; have c_a_1 := h_a.out.2 1 _ rfl; have c_a_2 := h_a.out.2 2 _ rfl; have c_a_3 := h_a.out.2 3 _ rfl; have h_s := h_s_w2; clear h_s_w2; have z_s := h_s.out.1; have c_s_0 := h_s.out.2 0 _ rfl; have c_s_1 := h_s.out.2 1 _ rfl)
      | (go_at_call 25; refine (K3.out _).mono ?_; rintro e w3 ⟨rfl, hb⟩; have HBw3 : Hid (Below w.heap.size w w3) := bl_trans (by repeat (first | exact Below.refl _ _ | exact Hid.out (by assumption) | with_reducible refine bl_al ?_ _ | with_reducible apply Below.drew)) hb; have h_a_w3 : Hid (Has (w.heap.size) [.int .u64 a3, .int .u64 a2, .int .u64 a1, .int .u64 a0] w3) := h_a.out.up (by repeat (first | exact Below.refl _ _ | with_reducible refine bl_al ?_ _ | with_reducible apply Below.drew)) hb; have h_s_w3 : Hid (Has (w1.heap.size) [.int .u64 s1, .int .u64 s0] w3) := h_s.out.up (by repeat (first | exact Below.refl _ _ | with_reducible refine bl_al ?_ _ | with_reducible apply Below.drew)) hb; clear hb; clear h_a z_a c_a_0 c_a_1 c_a_2 c_a_3; clear h_s z_s c_s_0 c_s_1; have h_a := h_a_w3; clear h_a_w3; have z_a := h_a.out.1; have c_a_0 := h_a.out.2 0 _ rfl; have c_a_1 := h_a.out.2 1 _ rfl; have c_a_2 := h_a.out.2 2 _ rfl; have c_a_3 := h_a.out.2 3 _ rfl; have h_s := h_s_w3; clear h_s_w3; have z_s := h_s.out.1; have c_s_0 := h_s.out.2 0 _ rfl; have c_s_1 := h_s.out.2 1 _ rfl))
  rename_i hHeld
  clear hHeld
  go_wp2_with fail
  refine (K4.out _).mono ?_
  rintro e w4 ⟨rfl, hb⟩
  have HBw4 : Hid (Below w.heap.size w w4) := bl_trans (by repeat (first | exact Below.refl _ _ | exact Hid.out (by assumption) | with_reducible refine bl_al ?_ _ | with_reducible apply Below.drew)) hb
  have h_a_w4 : Hid (Has (w.heap.size) [.int .u64 a3, .int .u64 a2, .int .u64 a1, .int .u64 a0] w4) := h_a.out.up (by repeat (first | exact Below.refl _ _ | with_reducible refine bl_al ?_ _ | with_reducible apply Below.drew)) hb
  have h_s_w4 : Hid (Has (w1.heap.size) [.int .u64 s1, .int .u64 s0] w4) := h_s.out.up (by repeat (first | exact Below.refl _ _ | with_reducible refine bl_al ?_ _ | with_reducible apply Below.drew)) hb
  clear hb
  clear h_a z_a c_a_0 c_a_1 c_a_2 c_a_3
  clear h_s z_s c_s_0 c_s_1
  have h_a := h_a_w4; clear h_a_w4; have z_a := h_a.out.1; have c_a_0 := h_a.out.2 0 _ rfl; have c_a_1 := h_a.out.2 1 _ rfl; have c_a_2 := h_a.out.2 2 _ rfl; have c_a_3 := h_a.out.2 3 _ rfl
  have h_s := h_s_w4; clear h_s_w4; have z_s := h_s.out.1; have c_s_0 := h_s.out.2 0 _ rfl; have c_s_1 := h_s.out.2 1 _ rfl
  go_upto_region 5 with fail
  go_region_with (go_at_call 16; refine (awake_true _).mono ?_; rintro e w5 ⟨rfl, hb⟩; have HBw5 : Hid (Below w.heap.size w w5) := bl_trans (by repeat (first | exact Below.refl _ _ | exact Hid.out (by assumption) | with_reducible refine bl_al ?_ _ | with_reducible apply Below.drew)) hb; have h_a_w5 : Hid (Has (w.heap.size) [.int .u64 a3, .int .u64 a2, .int .u64 a1, .int .u64 a0] w5) := h_a.out.up (by repeat (first | exact Below.refl _ _ | with_reducible refine bl_al ?_ _ | with_reducible apply Below.drew)) hb; have h_s_w5 : Hid (Has (w1.heap.size) [.int .u64 s1, .int .u64 s0] w5) := h_s.out.up (by repeat (first | exact Below.refl _ _ | with_reducible refine bl_al ?_ _ | with_reducible apply Below.drew)) hb; have h_n_w5 : Hid (Has (w4.heap.size) [.int .u64 n1, .int .u64 n0] w5) := Has.step (Has.mk2 (by simp <;> omega) (by simp [go_sem]) (by simp [go_sem])) hb; clear hb; clear h_a z_a c_a_0 c_a_1 c_a_2 c_a_3; clear h_s z_s c_s_0 c_s_1; have h_a := h_a_w5; clear h_a_w5; have z_a := h_a.out.1; have c_a_0 := h_a.out.2 0 _ rfl; have c_a_1 := h_a.out.2 1 _ rfl; have c_a_2 := h_a.out.2 2 _ rfl; have c_a_3 := h_a.out.2 3 _ rfl; have h_s := h_s_w5; clear h_s_w5; have z_s := h_s.out.1; have c_s_0 := h_s.out.2 0 _ rfl; have c_s_1 := h_s.out.2 1 _ rfl; have h_n := h_n_w5; clear h_n_w5; have z_n := h_n.out.1; have c_n_0 := h_n.out.2 0 _ rfl; have c_n_1 := h_n.out.2 1 _ rfl)
  all_goals (go_wp2_with fail; go_returns; exact ⟨rfl, by repeat (first | exact Below.refl _ _ | exact Hid.out (by assumption) | with_reducible refine bl_al ?_ _ | with_reducible apply Below.drew)⟩)
theorem icmp_le {a b : Nat} (h : a ≤ b) : icmp (a : Int) (b : Int) ≤ 0 := by
  unfold icmp; repeat' split
  all_goals omega
theorem icmp_gt {a b : Nat} (h : b < a) : 0 < icmp (a : Int) (b : Int) := by
  unfold icmp; repeat' split
  all_goals omega
theorem limbRoots_walk (a3 a2 a1 a0 : Int) (h3 : Wd a3) (h2 : Wd a2) (h1 : Wd a1) (h0 : Wd a0) (w : World) :
    Calls Try.prog 8 #[.agg #[.int .u64 a3, .int .u64 a2, .int .u64 a1, .int .u64 a0]] w fun e w' => e = .returned (.bool true) ∧ Below w.heap.size w w' := by
  have hA := v4_lt h3 h2 h1 h0
  have hq := isq_128 hA
  obtain ⟨s1, s2⟩ := isq_spec (v4 a3 a2 a1 a0)
  have C1 := sqrt_any a3 a2 a1 a0 h3 h2 h1 h0
  have k1 := wd_wd (isq (v4 a3 a2 a1 a0)) 1; have k0 := wd_wd (isq (v4 a3 a2 a1 a0)) 0
  have C2 := mul_any _ _ _ _ k1 k0 k1 k0
  have C4 := add_any _ _ 0 1 k1 k0 ⟨by omega, by omega⟩ ⟨by omega, by omega⟩
  rw [v2_small hq] at C2 C4
  have one : v2 0 1 = 1 := rfl
  rw [one] at C4
  have C3 := cmp_any (wd (isq (v4 a3 a2 a1 a0) * isq (v4 a3 a2 a1 a0)) 3) (wd (isq (v4 a3 a2 a1 a0) * isq (v4 a3 a2 a1 a0)) 2) (wd (isq (v4 a3 a2 a1 a0) * isq (v4 a3 a2 a1 a0)) 1) (wd (isq (v4 a3 a2 a1 a0) * isq (v4 a3 a2 a1 a0)) 0) a3 a2 a1 a0 (wd_wd _ _) (wd_wd _ _) (wd_wd _ _) (wd_wd _ _) h3 h2 h1 h0
  rw [v4_small (Nat.lt_of_le_of_lt s1 hA)] at C3
  by_cases c : 340282366920938463463374607431768211456 ≤ isq (v4 a3 a2 a1 a0) + 1
  · rw [decide_eq_true c] at C4
    exact limbRoots_over a3 a2 a1 a0 _ _ _ _ _ _ _ _ 0 0 0 0 _ 1 (icmp_le s1) (by omega) w C1 C2 C3 C4
  · rw [decide_eq_false c] at C4
    have n1 := wd_wd (isq (v4 a3 a2 a1 a0) + 1) 1; have n0 := wd_wd (isq (v4 a3 a2 a1 a0) + 1) 0
    have hn : isq (v4 a3 a2 a1 a0) + 1 < 340282366920938463463374607431768211456 := by omega
    have C5 := mul_any _ _ _ _ n1 n0 n1 n0
    have l5 := mul_lt n1 n0 n1 n0
    rw [v2_small hn] at C5 l5
    have C6 := cmp_any (wd ((isq (v4 a3 a2 a1 a0) + 1) * (isq (v4 a3 a2 a1 a0) + 1)) 3) (wd ((isq (v4 a3 a2 a1 a0) + 1) * (isq (v4 a3 a2 a1 a0) + 1)) 2) (wd ((isq (v4 a3 a2 a1 a0) + 1) * (isq (v4 a3 a2 a1 a0) + 1)) 1) (wd ((isq (v4 a3 a2 a1 a0) + 1) * (isq (v4 a3 a2 a1 a0) + 1)) 0) a3 a2 a1 a0 (wd_wd _ _) (wd_wd _ _) (wd_wd _ _) (wd_wd _ _) h3 h2 h1 h0
    rw [v4_small l5] at C6
    exact limbRoots_room a3 a2 a1 a0 _ _ _ _ _ _ _ _ _ _ _ _ _ _ (icmp_le s1) (icmp_gt s2) w C1 C2 C3 C4 C5 C6

set_option maxRecDepth 100000 in
theorem limbRoots_lifted (os : Os) (started : os.Started) (H : Type) (enc : TypeId × Value → H) :
    ReturnsInHanded {} Try.checked os 8 .any (Rows.limbRootsSpec.pre6 enc Try.prog Try.f8 Rows.limbRootsRow.domain false) (Rows.limbRootsSpec.post enc Try.prog Try.f8 false true false false) := by
  refine returnsInHanded_of_change (C := Try.checked) Try.own started (by kernel_rfl) Try.func8
    (ChangeSpec.witness6 (enc := enc) (C := Try.checked) false ⟨#[], #[.agg #[.int .u64 0, .int .u64 0, .int .u64 0, .int .u64 0]], []⟩ 8 (by kernel_rfl) (by kernel_rfl) (by kernel_rfl) (by kernel_rfl)) ?_
  intro W base args ds gs before hval0 hW hcnd _
  have hval : ∀ (j : Nat) t v, Try.f8.params[j]? = some t → args[j]? = some v → Value.okWide Try.prog W .any base t v := hval0
  have hW' := hW
  obtain ⟨p, q, hA0, hV, rfl, hfz, hnd⟩ := hW
  have hA : DataW.TrodAll enc Try.prog W 0 (fun _ => true) true Try.f8.params.toList args.toList ds p := hA0
  rw [Try.params8] at hA hval
  obtain ⟨v0, d0, rfl, rfl, h0⟩ := trodAll_one hA
  obtain ⟨rfl, rfl⟩ := trodVars_none hV
  obtain ⟨a3, a2, a1, a0, rfl, rfl, rfl, k00, k01, k02, k03⟩ := open_four (hval 0 33 v0 rfl rfl) h0
  clear hA0 hval0
  simp only [List.append_nil] at hW'
  refine (limbRoots_walk a3 a2 a1 a0 k00 k01 k02 k03 W).mono fun e W' ⟨he, hb⟩ => ?_
  subst he
  exact ⟨_, rfl, _, _, _, [], [], [], hW', trodAll_mk1 (shut_bool Try.underlying4 _), trodAll_mk1 (shut_four k00 k01 k02 k03), rfl, hb.frame _, fun h => by cases h⟩

theorem limbRoots_holds : Rows.LimbRootsSaid :=
  OpenClaim.holds_of_wide 8 Try.f8 rfl rfl rfl rfl rfl rfl rfl ⟨rfl, rfl, rfl, rfl, rfl⟩ rfl rfl rfl rfl rfl (by kernel_rfl) Try.func8 (by kernel_rfl)
    (of_decide_eq_true (by kernel_rfl)) (by unfold Func.isWrapper; first | (rw [if_pos (by decide +kernel)]; kernel_rfl) | (rw [if_neg (by decide +kernel)]; exact ⟨rfl, rfl⟩))
    (fun os started H enc _ => limbRoots_lifted os started H enc)
end Go.Proofs.Ytbpgokkdhkdabaa
