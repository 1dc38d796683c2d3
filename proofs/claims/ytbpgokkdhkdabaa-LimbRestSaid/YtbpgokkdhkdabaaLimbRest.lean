/- LimbRest: a quotient times its divisor, and the rest, are the dividend. For any numbers, without conditions. -/
import Derived.Test.YtbpgokkdhkdabaaLaw
import Derived.Test.YtbpgokkdhkdabaaMulAny
import Derived.Deep.DeepCutAuto
namespace Go.Proofs.Ytbpgokkdhkdabaa
open Go.ChangeShapes Go.WideShapes Go.ChangeAt Go.RowKit Go.Joins

theorem four_true (a3 a2 a1 a0 : Int) : ∀ W, (Go.binOp .eql 33 (.agg #[.int .u64 a3, .int .u64 a2, .int .u64 a1, .int .u64 a0]) (.agg #[.int .u64 a3, .int .u64 a2, .int .u64 a1, .int .u64 a0])).run Try.prog W = .ok (.bool true) W := fun W => by
  simp [go_sem]
theorem Has.upto {B n : Nat} {l : List Value} {W W' : World} (h : Has B l W) (hB : B < n) (g : Below n W W') : Has B l W' :=
  ⟨Nat.lt_of_lt_of_le h.1 g.size, fun j x hx => by rw [g.cell (p := ⟨B, j, none⟩) hB]; exact h.2 j x hx⟩
/-- What stands when the quotient is told. -/
def RestP (w : World) (a3 a2 a1 a0 b1 b0 : Int) (N : Nat) (q3 q2 q1 q0 r1 r0 : Int) (W : World) : Prop :=
  Below w.heap.size w W ∧ w.heap.size + 1 < N ∧ N + 1 < W.heap.size ∧ Has w.heap.size [.int .u64 a3, .int .u64 a2, .int .u64 a1, .int .u64 a0] W ∧ Has (w.heap.size + 1) [.int .u64 b1, .int .u64 b0] W ∧ Has N [.int .u64 q3, .int .u64 q2, .int .u64 q1, .int .u64 q0] W ∧ Has (N + 1) [.int .u64 r1, .int .u64 r0] W
theorem RestP.step {w : World} {a3 a2 a1 a0 b1 b0 : Int} {N : Nat} {q3 q2 q1 q0 r1 r0 : Int} {W W' : World} (h : RestP w a3 a2 a1 a0 b1 b0 N q3 q2 q1 q0 r1 r0 W) (g : Below W.heap.size W W') : RestP w a3 a2 a1 a0 b1 b0 N q3 q2 q1 q0 r1 r0 W' := by
  obtain ⟨h1, h2, h3, h4, h5, h6, h7⟩ := h
  exact ⟨bl_trans h1 g, h2, Nat.lt_of_lt_of_le h3 g.size, h4.step g, h5.step g, h6.step g, h7.step g⟩
theorem RestP.upto {w : World} {a3 a2 a1 a0 b1 b0 : Int} {N : Nat} {q3 q2 q1 q0 r1 r0 : Int} {W W' : World} (h : RestP w a3 a2 a1 a0 b1 b0 N q3 q2 q1 q0 r1 r0 W) (g : Below (N + 2) W W') : RestP w a3 a2 a1 a0 b1 b0 N q3 q2 q1 q0 r1 r0 W' := by
  obtain ⟨h1, h2, h3, h4, h5, h6, h7⟩ := h
  exact ⟨h1.trans (g.mono (by omega)), h2, Nat.lt_of_lt_of_le h3 g.size, h4.upto (by omega) g, h5.upto (by omega) g, h6.upto (by omega) g, h7.upto (by omega) g⟩
set_option maxRecDepth 20000 in
set_option maxHeartbeats 4000000 in
theorem limbRest_plain (a3 a2 a1 a0 b1 b0 q3 q2 q1 q0 r1 r0 l3 l2 l1 l0 h1 h0 x1 x0 : Int) (hz : decide (b1 = 0 ∧ b0 = 0) = false) (w : World)
    (C1 : ∀ W, Calls Try.prog 17 #[.agg #[.int .u64 a3, .int .u64 a2, .int .u64 a1, .int .u64 a0], .agg #[.int .u64 b1, .int .u64 b0]] W fun e w' => e = .returned (.tuple #[.agg #[.int .u64 q3, .int .u64 q2, .int .u64 q1, .int .u64 q0], .agg #[.int .u64 r1, .int .u64 r0], .bool true]) ∧ Below W.heap.size W w')
    (C2 : ∀ W, Calls Try.prog 19 #[.agg #[.int .u64 q1, .int .u64 q0], .agg #[.int .u64 b1, .int .u64 b0]] W fun e w' => e = .returned (.agg #[.int .u64 l3, .int .u64 l2, .int .u64 l1, .int .u64 l0]) ∧ Below W.heap.size W w')
    (C3 : ∀ W, Calls Try.prog 19 #[.agg #[.int .u64 q3, .int .u64 q2], .agg #[.int .u64 b1, .int .u64 b0]] W fun e w' => e = .returned (.agg #[.int .u64 0, .int .u64 0, .int .u64 h1, .int .u64 h0]) ∧ Below W.heap.size W w')
    (C4 : ∀ W, Calls Try.prog 12 #[.agg #[.int .u64 l1, .int .u64 l0], .agg #[.int .u64 r1, .int .u64 r0]] W fun e w' => e = .returned (.tuple #[.agg #[.int .u64 a1, .int .u64 a0], .bool false]) ∧ Below W.heap.size W w')
    (C5 : ∀ W, Calls Try.prog 12 #[.agg #[.int .u64 l3, .int .u64 l2], .agg #[.int .u64 h1, .int .u64 h0]] W fun e w' => e = .returned (.tuple #[.agg #[.int .u64 a3, .int .u64 a2], .bool false]) ∧ Below W.heap.size W w')
    (C6 : ∀ W, Calls Try.prog 13 #[.agg #[.int .u64 r1, .int .u64 r0], .agg #[.int .u64 b1, .int .u64 b0]] W fun e w' => e = .returned (.tuple #[.agg #[.int .u64 x1, .int .u64 x0], .bool true]) ∧ Below W.heap.size W w') :
    Calls Try.prog 7 #[.agg #[.int .u64 a3, .int .u64 a2, .int .u64 a1, .int .u64 a0], .agg #[.int .u64 b1, .int .u64 b0]] w fun e w' => e = .returned (.bool true) ∧ Below w.heap.size w w' := by
  have K1 := Lib.hid C1; have K2 := Lib.hid C2; have K3 := Lib.hid C3; have K4 := Lib.hid C4; have K5 := Lib.hid C5; have K6 := Lib.hid C6
  clear C1 C2 C3 C4 C5 C6
  have e1 : ∀ W, (Go.binOp .eql 24 (.agg #[.int .u64 b1, .int .u64 b0]) (.agg #[.int .u64 0, .int .u64 0])).run Try.prog W = .ok (.bool false) W := fun W => by rw [eq_two, hz]
  have e2 := eq_two_true 0 0; have e3 := four_true a3 a2 a1 a0
  clear hz
  go_enter Try.func7, Try.ntmps7
  go_wp2_with fail
  refine (K1.out _).mono ?_
  rintro e w1 ⟨rfl, hb⟩
  have HBw1 : Hid (Below w.heap.size w w1) := bl_trans (by repeat (first | exact Below.refl _ _ | exact Hid.out (by assumption) | with_reducible refine bl_al ?_ _ | with_reducible apply Below.drew)) hb
  have h_a_w1 : Hid (Has (w.heap.size) [.int .u64 a3, .int .u64 a2, .int .u64 a1, .int .u64 a0] w1) := Has.step (Has.mk4 (by simp <;> omega) (by simp [go_sem]) (by simp [go_sem]) (by simp [go_sem]) (by simp [go_sem])) hb
  have h_b_w1 : Hid (Has (w.heap.size + 1) [.int .u64 b1, .int .u64 b0] w1) := Has.step (Has.mk2 (by simp <;> omega) (by simp [go_sem]) (by simp [go_sem])) hb
  clear hb
  have h_a := h_a_w1; clear h_a_w1; have z_a := h_a.out.1; have c_a_0 := h_a.out.2 0 _ rfl; have c_a_1 := h_a.out.2 1 _ rfl; have c_a_2 := h_a.out.2 2 _ rfl; have c_a_3 := h_a.out.2 3 _ rfl
  have h_b := h_b_w1; clear h_b_w1; have z_b := h_b.out.1; have c_b_0 := h_b.out.2 0 _ rfl; have c_b_1 := h_b.out.2 1 _ rfl
  have P0 : RestP w a3 a2 a1 a0 b1 b0 w1.heap.size q3 q2 q1 q0 r1 r0 ((w1.alloc (.cells #[.int .u64 q3, .int .u64 q2, .int .u64 q1, .int .u64 q0] 33)).alloc (.cells #[.int .u64 r1, .int .u64 r0] 24)) :=
    ⟨bl_al (bl_al HBw1.out _) _, z_b, by simp, h_a.out.step (bl_al (bl_al (Below.refl _ _) _) _), h_b.out.step (bl_al (bl_al (Below.refl _ _) _) _), Has.mk4 (by simp <;> omega) (by simp [go_sem]) (by simp [go_sem]) (by simp [go_sem]) (by simp [go_sem]), Has.mk2 (by simp <;> omega) (by simp [go_sem]) (by simp [go_sem])⟩
  have HP0 := Lib.hid P0
  clear P0 HBw1
  have ltt : ∀ n : Nat, n < n + 1 + 1 := fun n => by omega
  have y1 : w.heap.size + 1 < w1.heap.size + 1 := by omega
  have y2 : w.heap.size + 1 < w1.heap.size + 1 + 1 := by omega
  have y3 : w.heap.size + 1 < w1.heap.size + 1 + 1 + 1 := by omega
  have y4 : w.heap.size < w1.heap.size := by omega
  have y5 : w.heap.size < w1.heap.size + 1 := by omega
  have y6 : w.heap.size < w1.heap.size + 1 + 1 := by omega
  have y7 : w.heap.size < w1.heap.size + 1 + 1 + 1 := by omega
  go_upto_region 4 with fail
  go_cut [8, 9] (fun s5 s6 wx => ∃ bx cx : Nat, s5 = .pointer (some ⟨bx, 0, none⟩) ∧ s6 = .pointer (some ⟨cx, 0, none⟩) ∧ Has bx [.int .u64 l3, .int .u64 l2, .int .u64 l1, .int .u64 l0] wx ∧ Has cx [.int .u64 0, .int .u64 0, .int .u64 h1, .int .u64 h0] wx ∧ RestP w a3 a2 a1 a0 b1 b0 w1.heap.size q3 q2 q1 q0 r1 r0 wx)
  case first =>
    go_region_held3 (fun w' => w'.cell? ⟨w.heap.size + 1, 0, none⟩ = some (.int .u64 b1) ∧ w'.cell? ⟨w.heap.size + 1, 1, none⟩ = some (.int .u64 b0) ∧ w'.cell? ⟨w1.heap.size, 0, none⟩ = some (.int .u64 q3) ∧ w'.cell? ⟨w1.heap.size, 1, none⟩ = some (.int .u64 q2) ∧ w'.cell? ⟨w1.heap.size, 2, none⟩ = some (.int .u64 q1) ∧ w'.cell? ⟨w1.heap.size, 3, none⟩ = some (.int .u64 q0)) (simp [*, go_sem])
      (first
        | (go_at_call 19; (with_reducible refine (K2.out _).mono ?_); rintro e w2 ⟨rfl, hb⟩; have HP1 := Lib.hid (HP0.out.step (bl_trans (by repeat (first | exact Below.refl _ _ | with_reducible refine bl_al ?_ _ | with_reducible apply Below.drew)) hb)); obtain ⟨hclc, hfrc⟩ := bcell hb; have hszc := hb.size; (try simp at hszc); have cb0 := HP1.out.2.2.2.2.1.2 0 _ rfl; have cb1 := HP1.out.2.2.2.2.1.2 1 _ rfl; have cq0 := HP1.out.2.2.2.2.2.1.2 0 _ rfl; have cq1 := HP1.out.2.2.2.2.2.1.2 1 _ rfl; have cq2 := HP1.out.2.2.2.2.2.1.2 2 _ rfl; have cq3 := HP1.out.2.2.2.2.2.1.2 3 _ rfl; have s0 := HP1.out.2.1; have s1 := HP1.out.2.2.1; have s2 : w1.heap.size < w2.heap.size := (by omega); have s3 : w.heap.size + 1 < w2.heap.size := (by omega); have s4 : w.heap.size < w2.heap.size := (by omega); (try have s5 : w1.heap.size + 1 + 1 < w2.heap.size := (by omega)); (try have s6 : w1.heap.size + 1 + 1 + 1 < w2.heap.size := (by omega)); clear hb)
        | (go_at_call 19; (with_reducible refine (K3.out _).mono ?_); rintro e w3 ⟨rfl, hb⟩; have HP2 := Lib.hid (HP1.out.step (bl_trans (by repeat (first | exact Below.refl _ _ | with_reducible refine bl_al ?_ _ | with_reducible apply Below.drew)) hb)); obtain ⟨hclk, hfrk⟩ := bcell hb; have hszk := hb.size; (try simp at hszk); have kb0 := HP2.out.2.2.2.2.1.2 0 _ rfl; have kb1 := HP2.out.2.2.2.2.1.2 1 _ rfl; have kq0 := HP2.out.2.2.2.2.2.1.2 0 _ rfl; have kq1 := HP2.out.2.2.2.2.2.1.2 1 _ rfl; have kq2 := HP2.out.2.2.2.2.2.1.2 2 _ rfl; have kq3 := HP2.out.2.2.2.2.2.1.2 3 _ rfl; have d0 := HP2.out.2.1; have d1 := HP2.out.2.2.1; have d2 : w1.heap.size < w3.heap.size := (by omega); have d3 : w.heap.size + 1 < w3.heap.size := (by omega); have d4 : w.heap.size < w3.heap.size := (by omega); (try have d5 : w1.heap.size + 1 + 1 < w3.heap.size := (by omega)); (try have d6 : w1.heap.size + 1 + 1 + 1 < w3.heap.size := (by omega)); have d8 : w2.heap.size ≤ w3.heap.size := (by omega); (try have d9 : w2.heap.size < w3.heap.size := (by omega)); (try have d10 : w2.heap.size + 1 < w3.heap.size := (by omega)); clear hb))
    all_goals (rename_i hHeld; clear hHeld; go_wp2_with fail; go_meet; exact ⟨_, _, rfl, rfl, Has.mk4 (by simp <;> omega) (by simp [go_sem, *]) (by simp [go_sem, *]) (by simp [go_sem, *]) (by simp [go_sem, *]), Has.mk4 (by simp <;> omega) (by simp [go_sem, *]) (by simp [go_sem, *]) (by simp [go_sem, *]) (by simp [go_sem, *]), HP2.out.upto (by go_grown)⟩)
  case rest =>
    obtain ⟨bx, cx, rfl, rfl, g_l, g_h, g_p, g_n, g_m, g_a, g_b, g_q, g_r⟩ := hcut
    have HBwc := Lib.hid g_p
    clear HP0 ltt y1 y2 y3 y4 y5 y6 y7 h_a h_b z_a z_b c_a_0 c_a_1 c_a_2 c_a_3 c_b_0 c_b_1 K1 K2 K3
    have h_a := Lib.hid g_a; clear g_a; have z_a := h_a.out.1; have c_a_0 := h_a.out.2 0 _ rfl; have c_a_1 := h_a.out.2 1 _ rfl; have c_a_2 := h_a.out.2 2 _ rfl; have c_a_3 := h_a.out.2 3 _ rfl
    have h_b := Lib.hid g_b; clear g_b; have z_b := h_b.out.1; have c_b_0 := h_b.out.2 0 _ rfl; have c_b_1 := h_b.out.2 1 _ rfl
    have h_q := Lib.hid g_q; clear g_q; have z_q := h_q.out.1; have c_q_0 := h_q.out.2 0 _ rfl; have c_q_1 := h_q.out.2 1 _ rfl; have c_q_2 := h_q.out.2 2 _ rfl; have c_q_3 := h_q.out.2 3 _ rfl
    have h_r := Lib.hid g_r; clear g_r; have z_r := h_r.out.1; have c_r_0 := h_r.out.2 0 _ rfl; have c_r_1 := h_r.out.2 1 _ rfl
    have h_l := Lib.hid g_l; clear g_l; have z_l := h_l.out.1; have c_l_0 := h_l.out.2 0 _ rfl; have c_l_1 := h_l.out.2 1 _ rfl; have c_l_2 := h_l.out.2 2 _ rfl; have c_l_3 := h_l.out.2 3 _ rfl
    have h_h := Lib.hid g_h; clear g_h; have z_h := h_h.out.1; have c_h_0 := h_h.out.2 0 _ rfl; have c_h_1 := h_h.out.2 1 _ rfl; have c_h_2 := h_h.out.2 2 _ rfl; have c_h_3 := h_h.out.2 3 _ rfl
    clear g_p
    go_wp2_with fail
    refine (K4.out _).mono ?_
    rintro e w4 ⟨rfl, hb⟩
    have HBw4 : Hid (Below w.heap.size w w4) := bl_trans (by repeat (first | exact Below.refl _ _ | exact Hid.out (by assumption) | with_reducible refine bl_al ?_ _ | with_reducible apply Below.drew)) hb
    have h_a_w4 : Hid (Has (w.heap.size) [.int .u64 a3, .int .u64 a2, .int .u64 a1, .int .u64 a0] w4) := h_a.out.up (by repeat (first | exact Below.refl _ _ | with_reducible refine bl_al ?_ _ | with_reducible apply Below.drew)) hb
    have h_b_w4 : Hid (Has (w.heap.size + 1) [.int .u64 b1, .int .u64 b0] w4) := h_b.out.up (by repeat (first | exact Below.refl _ _ | with_reducible refine bl_al ?_ _ | with_reducible apply Below.drew)) hb
    have h_q_w4 : Hid (Has (w1.heap.size) [.int .u64 q3, .int .u64 q2, .int .u64 q1, .int .u64 q0] w4) := h_q.out.up (by repeat (first | exact Below.refl _ _ | with_reducible refine bl_al ?_ _ | with_reducible apply Below.drew)) hb
    have h_r_w4 : Hid (Has (w1.heap.size + 1) [.int .u64 r1, .int .u64 r0] w4) := h_r.out.up (by repeat (first | exact Below.refl _ _ | with_reducible refine bl_al ?_ _ | with_reducible apply Below.drew)) hb
    have h_l_w4 : Hid (Has (bx) [.int .u64 l3, .int .u64 l2, .int .u64 l1, .int .u64 l0] w4) := h_l.out.up (by repeat (first | exact Below.refl _ _ | with_reducible refine bl_al ?_ _ | with_reducible apply Below.drew)) hb
    have h_h_w4 : Hid (Has (cx) [.int .u64 0, .int .u64 0, .int .u64 h1, .int .u64 h0] w4) := h_h.out.up (by repeat (first | exact Below.refl _ _ | with_reducible refine bl_al ?_ _ | with_reducible apply Below.drew)) hb
    clear hb
    clear h_a z_a c_a_0 c_a_1 c_a_2 c_a_3
    clear h_b z_b c_b_0 c_b_1
    clear h_q z_q c_q_0 c_q_1 c_q_2 c_q_3
    clear h_r z_r c_r_0 c_r_1
    clear h_l z_l c_l_0 c_l_1 c_l_2 c_l_3
    clear h_h z_h c_h_0 c_h_1 c_h_2 c_h_3
    have h_a := h_a_w4; clear h_a_w4; have z_a := h_a.out.1; have c_a_0 := h_a.out.2 0 _ rfl; have c_a_1 := h_a.out.2 1 _ rfl; have c_a_2 := h_a.out.2 2 _ rfl; have c_a_3 := h_a.out.2 3 _ rfl
    have h_b := h_b_w4; clear h_b_w4; have z_b := h_b.out.1; have c_b_0 := h_b.out.2 0 _ rfl; have c_b_1 := h_b.out.2 1 _ rfl
    have h_q := h_q_w4; clear h_q_w4; have z_q := h_q.out.1; have c_q_0 := h_q.out.2 0 _ rfl; have c_q_1 := h_q.out.2 1 _ rfl; have c_q_2 := h_q.out.2 2 _ rfl; have c_q_3 := h_q.out.2 3 _ rfl
    have h_r := h_r_w4; clear h_r_w4; have z_r := h_r.out.1; have c_r_0 := h_r.out.2 0 _ rfl; have c_r_1 := h_r.out.2 1 _ rfl
    have h_l := h_l_w4; clear h_l_w4; have z_l := h_l.out.1; have c_l_0 := h_l.out.2 0 _ rfl; have c_l_1 := h_l.out.2 1 _ rfl; have c_l_2 := h_l.out.2 2 _ rfl; have c_l_3 := h_l.out.2 3 _ rfl
    have h_h := h_h_w4; clear h_h_w4; have z_h := h_h.out.1; have c_h_0 := h_h.out.2 0 _ rfl; have c_h_1 := h_h.out.2 1 _ rfl; have c_h_2 := h_h.out.2 2 _ rfl; have c_h_3 := h_h.out.2 3 _ rfl
    clear h_q z_q c_q_0 c_q_1 c_q_2 c_q_3
    go_wp2_with fail
    refine (K5.out _).mono ?_
    rintro e w5 ⟨rfl, hb⟩
    have HBw5 : Hid (Below w.heap.size w w5) := bl_trans (by repeat (first | exact Below.refl _ _ | exact Hid.out (by assumption) | with_reducible refine bl_al ?_ _ | with_reducible apply Below.drew)) hb
    have h_a_w5 : Hid (Has (w.heap.size) [.int .u64 a3, .int .u64 a2, .int .u64 a1, .int .u64 a0] w5) := h_a.out.up (by repeat (first | exact Below.refl _ _ | with_reducible refine bl_al ?_ _ | with_reducible apply Below.drew)) hb
    have h_b_w5 : Hid (Has (w.heap.size + 1) [.int .u64 b1, .int .u64 b0] w5) := h_b.out.up (by repeat (first | exact Below.refl _ _ | with_reducible refine bl_al ?_ _ | with_reducible apply Below.drew)) hb
    have h_r_w5 : Hid (Has (w1.heap.size + 1) [.int .u64 r1, .int .u64 r0] w5) := h_r.out.up (by repeat (first | exact Below.refl _ _ | with_reducible refine bl_al ?_ _ | with_reducible apply Below.drew)) hb
    have h_l_w5 : Hid (Has (bx) [.int .u64 l3, .int .u64 l2, .int .u64 l1, .int .u64 l0] w5) := h_l.out.up (by repeat (first | exact Below.refl _ _ | with_reducible refine bl_al ?_ _ | with_reducible apply Below.drew)) hb
    have h_h_w5 : Hid (Has (cx) [.int .u64 0, .int .u64 0, .int .u64 h1, .int .u64 h0] w5) := h_h.out.up (by repeat (first | exact Below.refl _ _ | with_reducible refine bl_al ?_ _ | with_reducible apply Below.drew)) hb
    have h_lo_w5 : Hid (Has (w4.heap.size) [.int .u64 a1, .int .u64 a0] w5) := Has.step (Has.mk2 (by simp <;> omega) (by simp [go_sem]) (by simp [go_sem])) hb
    clear hb
    clear h_a z_a c_a_0 c_a_1 c_a_2 c_a_3
    clear h_b z_b c_b_0 c_b_1
    clear h_r z_r c_r_0 c_r_1
    clear h_l z_l c_l_0 c_l_1 c_l_2 c_l_3
    clear h_h z_h c_h_0 c_h_1 c_h_2 c_h_3
    have h_a := h_a_w5; clear h_a_w5; have z_a := h_a.out.1; have c_a_0 := h_a.out.2 0 _ rfl; have c_a_1 := h_a.out.2 1 _ rfl; have c_a_2 := h_a.out.2 2 _ rfl; have c_a_3 := h_a.out.2 3 _ rfl
    have h_b := h_b_w5; clear h_b_w5; have z_b := h_b.out.1; have c_b_0 := h_b.out.2 0 _ rfl; have c_b_1 := h_b.out.2 1 _ rfl
    have h_r := h_r_w5; clear h_r_w5; have z_r := h_r.out.1; have c_r_0 := h_r.out.2 0 _ rfl; have c_r_1 := h_r.out.2 1 _ rfl
    have h_l := h_l_w5; clear h_l_w5; have z_l := h_l.out.1; have c_l_0 := h_l.out.2 0 _ rfl; have c_l_1 := h_l.out.2 1 _ rfl; have c_l_2 := h_l.out.2 2 _ rfl; have c_l_3 := h_l.out.2 3 _ rfl
    have h_h := h_h_w5; clear h_h_w5; have z_h := h_h.out.1; have c_h_0 := h_h.out.2 0 _ rfl; have c_h_1 := h_h.out.2 1 _ rfl; have c_h_2 := h_h.out.2 2 _ rfl; have c_h_3 := h_h.out.2 3 _ rfl
    have h_lo := h_lo_w5; clear h_lo_w5; have z_lo := h_lo.out.1; have c_lo_0 := h_lo.out.2 0 _ rfl; have c_lo_1 := h_lo.out.2 1 _ rfl
    clear h_l z_l c_l_0 c_l_1 c_l_2 c_l_3
    go_wp2_with fail
    refine (K6.out _).mono ?_
    rintro e w6 ⟨rfl, hb⟩
    have HBw6 : Hid (Below w.heap.size w w6) := bl_trans (by repeat (first | exact Below.refl _ _ | exact Hid.out (by assumption) | with_reducible refine bl_al ?_ _ | with_reducible apply Below.drew)) hb
    have h_a_w6 : Hid (Has (w.heap.size) [.int .u64 a3, .int .u64 a2, .int .u64 a1, .int .u64 a0] w6) := h_a.out.up (by repeat (first | exact Below.refl _ _ | with_reducible refine bl_al ?_ _ | with_reducible apply Below.drew)) hb
    have h_b_w6 : Hid (Has (w.heap.size + 1) [.int .u64 b1, .int .u64 b0] w6) := h_b.out.up (by repeat (first | exact Below.refl _ _ | with_reducible refine bl_al ?_ _ | with_reducible apply Below.drew)) hb
    have h_r_w6 : Hid (Has (w1.heap.size + 1) [.int .u64 r1, .int .u64 r0] w6) := h_r.out.up (by repeat (first | exact Below.refl _ _ | with_reducible refine bl_al ?_ _ | with_reducible apply Below.drew)) hb
    have h_h_w6 : Hid (Has (cx) [.int .u64 0, .int .u64 0, .int .u64 h1, .int .u64 h0] w6) := h_h.out.up (by repeat (first | exact Below.refl _ _ | with_reducible refine bl_al ?_ _ | with_reducible apply Below.drew)) hb
    have h_lo_w6 : Hid (Has (w4.heap.size) [.int .u64 a1, .int .u64 a0] w6) := h_lo.out.up (by repeat (first | exact Below.refl _ _ | with_reducible refine bl_al ?_ _ | with_reducible apply Below.drew)) hb
    have h_hi_w6 : Hid (Has (w5.heap.size) [.int .u64 a3, .int .u64 a2] w6) := Has.step (Has.mk2 (by simp <;> omega) (by simp [go_sem]) (by simp [go_sem])) hb
    clear hb
    clear h_a z_a c_a_0 c_a_1 c_a_2 c_a_3
    clear h_b z_b c_b_0 c_b_1
    clear h_r z_r c_r_0 c_r_1
    clear h_h z_h c_h_0 c_h_1 c_h_2 c_h_3
    clear h_lo z_lo c_lo_0 c_lo_1
    have h_a := h_a_w6; clear h_a_w6; have z_a := h_a.out.1; have c_a_0 := h_a.out.2 0 _ rfl; have c_a_1 := h_a.out.2 1 _ rfl; have c_a_2 := h_a.out.2 2 _ rfl; have c_a_3 := h_a.out.2 3 _ rfl
    have h_b := h_b_w6; clear h_b_w6; have z_b := h_b.out.1; have c_b_0 := h_b.out.2 0 _ rfl; have c_b_1 := h_b.out.2 1 _ rfl
    have h_r := h_r_w6; clear h_r_w6; have z_r := h_r.out.1; have c_r_0 := h_r.out.2 0 _ rfl; have c_r_1 := h_r.out.2 1 _ rfl
    have h_h := h_h_w6; clear h_h_w6; have z_h := h_h.out.1; have c_h_0 := h_h.out.2 0 _ rfl; have c_h_1 := h_h.out.2 1 _ rfl; have c_h_2 := h_h.out.2 2 _ rfl; have c_h_3 := h_h.out.2 3 _ rfl
    have h_lo := h_lo_w6; clear h_lo_w6; have z_lo := h_lo.out.1; have c_lo_0 := h_lo.out.2 0 _ rfl; have c_lo_1 := h_lo.out.2 1 _ rfl
    have h_hi := h_hi_w6; clear h_hi_w6; have z_hi := h_hi.out.1; have c_hi_0 := h_hi.out.2 0 _ rfl; have c_hi_1 := h_hi.out.2 1 _ rfl
    go_wp2_with fail
    refine (awake_true _).mono ?_
    rintro e w7 ⟨rfl, hb⟩
    have HBw7 : Hid (Below w.heap.size w w7) := bl_trans (by repeat (first | exact Below.refl _ _ | exact Hid.out (by assumption) | with_reducible refine bl_al ?_ _ | with_reducible apply Below.drew)) hb
    have h_a_w7 : Hid (Has (w.heap.size) [.int .u64 a3, .int .u64 a2, .int .u64 a1, .int .u64 a0] w7) := h_a.out.up (by repeat (first | exact Below.refl _ _ | with_reducible refine bl_al ?_ _ | with_reducible apply Below.drew)) hb
    have h_b_w7 : Hid (Has (w.heap.size + 1) [.int .u64 b1, .int .u64 b0] w7) := h_b.out.up (by repeat (first | exact Below.refl _ _ | with_reducible refine bl_al ?_ _ | with_reducible apply Below.drew)) hb
    have h_r_w7 : Hid (Has (w1.heap.size + 1) [.int .u64 r1, .int .u64 r0] w7) := h_r.out.up (by repeat (first | exact Below.refl _ _ | with_reducible refine bl_al ?_ _ | with_reducible apply Below.drew)) hb
    have h_h_w7 : Hid (Has (cx) [.int .u64 0, .int .u64 0, .int .u64 h1, .int .u64 h0] w7) := h_h.out.up (by repeat (first | exact Below.refl _ _ | with_reducible refine bl_al ?_ _ | with_reducible apply Below.drew)) hb
    have h_lo_w7 : Hid (Has (w4.heap.size) [.int .u64 a1, .int .u64 a0] w7) := h_lo.out.up (by repeat (first | exact Below.refl _ _ | with_reducible refine bl_al ?_ _ | with_reducible apply Below.drew)) hb
    have h_hi_w7 : Hid (Has (w5.heap.size) [.int .u64 a3, .int .u64 a2] w7) := h_hi.out.up (by repeat (first | exact Below.refl _ _ | with_reducible refine bl_al ?_ _ | with_reducible apply Below.drew)) hb
    clear hb
    clear h_a z_a c_a_0 c_a_1 c_a_2 c_a_3
    clear h_b z_b c_b_0 c_b_1
    clear h_r z_r c_r_0 c_r_1
    clear h_h z_h c_h_0 c_h_1 c_h_2 c_h_3
    clear h_lo z_lo c_lo_0 c_lo_1
    clear h_hi z_hi c_hi_0 c_hi_1
    have h_a := h_a_w7; clear h_a_w7; have z_a := h_a.out.1; have c_a_0 := h_a.out.2 0 _ rfl; have c_a_1 := h_a.out.2 1 _ rfl; have c_a_2 := h_a.out.2 2 _ rfl; have c_a_3 := h_a.out.2 3 _ rfl
    have h_b := h_b_w7; clear h_b_w7; have z_b := h_b.out.1; have c_b_0 := h_b.out.2 0 _ rfl; have c_b_1 := h_b.out.2 1 _ rfl
    have h_r := h_r_w7; clear h_r_w7; have z_r := h_r.out.1; have c_r_0 := h_r.out.2 0 _ rfl; have c_r_1 := h_r.out.2 1 _ rfl
    have h_h := h_h_w7; clear h_h_w7; have z_h := h_h.out.1; have c_h_0 := h_h.out.2 0 _ rfl; have c_h_1 := h_h.out.2 1 _ rfl; have c_h_2 := h_h.out.2 2 _ rfl; have c_h_3 := h_h.out.2 3 _ rfl
    have h_lo := h_lo_w7; clear h_lo_w7; have z_lo := h_lo.out.1; have c_lo_0 := h_lo.out.2 0 _ rfl; have c_lo_1 := h_lo.out.2 1 _ rfl
    have h_hi := h_hi_w7; clear h_hi_w7; have z_hi := h_hi.out.1; have c_hi_0 := h_hi.out.2 0 _ rfl; have c_hi_1 := h_hi.out.2 1 _ rfl
    go_wp2_with fail
    go_returns
    exact ⟨rfl, by repeat (first | exact Below.refl _ _ | exact Hid.out (by assumption) | with_reducible refine bl_al ?_ _ | with_reducible apply Below.drew)⟩
set_option maxRecDepth 20000 in
set_option maxHeartbeats 4000000 in
theorem limbRest_carry (a3 a2 a1 a0 b1 b0 q3 q2 q1 q0 r1 r0 l3 l2 l1 l0 h1 h0 s1 s0 x1 x0 : Int) (hz : decide (b1 = 0 ∧ b0 = 0) = false) (w : World)
    (C1 : ∀ W, Calls Try.prog 17 #[.agg #[.int .u64 a3, .int .u64 a2, .int .u64 a1, .int .u64 a0], .agg #[.int .u64 b1, .int .u64 b0]] W fun e w' => e = .returned (.tuple #[.agg #[.int .u64 q3, .int .u64 q2, .int .u64 q1, .int .u64 q0], .agg #[.int .u64 r1, .int .u64 r0], .bool true]) ∧ Below W.heap.size W w')
    (C2 : ∀ W, Calls Try.prog 19 #[.agg #[.int .u64 q1, .int .u64 q0], .agg #[.int .u64 b1, .int .u64 b0]] W fun e w' => e = .returned (.agg #[.int .u64 l3, .int .u64 l2, .int .u64 l1, .int .u64 l0]) ∧ Below W.heap.size W w')
    (C3 : ∀ W, Calls Try.prog 19 #[.agg #[.int .u64 q3, .int .u64 q2], .agg #[.int .u64 b1, .int .u64 b0]] W fun e w' => e = .returned (.agg #[.int .u64 0, .int .u64 0, .int .u64 h1, .int .u64 h0]) ∧ Below W.heap.size W w')
    (C4 : ∀ W, Calls Try.prog 12 #[.agg #[.int .u64 l1, .int .u64 l0], .agg #[.int .u64 r1, .int .u64 r0]] W fun e w' => e = .returned (.tuple #[.agg #[.int .u64 a1, .int .u64 a0], .bool true]) ∧ Below W.heap.size W w')
    (C5 : ∀ W, Calls Try.prog 12 #[.agg #[.int .u64 l3, .int .u64 l2], .agg #[.int .u64 h1, .int .u64 h0]] W fun e w' => e = .returned (.tuple #[.agg #[.int .u64 s1, .int .u64 s0], .bool false]) ∧ Below W.heap.size W w')
    (C6 : ∀ W, Calls Try.prog 13 #[.agg #[.int .u64 r1, .int .u64 r0], .agg #[.int .u64 b1, .int .u64 b0]] W fun e w' => e = .returned (.tuple #[.agg #[.int .u64 x1, .int .u64 x0], .bool true]) ∧ Below W.heap.size W w')
    (C7 : ∀ W, Calls Try.prog 12 #[.agg #[.int .u64 s1, .int .u64 s0], .agg #[.int .u64 0, .int .u64 1]] W fun e w' => e = .returned (.tuple #[.agg #[.int .u64 a3, .int .u64 a2], .bool false]) ∧ Below W.heap.size W w') :
    Calls Try.prog 7 #[.agg #[.int .u64 a3, .int .u64 a2, .int .u64 a1, .int .u64 a0], .agg #[.int .u64 b1, .int .u64 b0]] w fun e w' => e = .returned (.bool true) ∧ Below w.heap.size w w' := by
  have K1 := Lib.hid C1; have K2 := Lib.hid C2; have K3 := Lib.hid C3; have K4 := Lib.hid C4; have K5 := Lib.hid C5; have K6 := Lib.hid C6; have K7 := Lib.hid C7
  clear C1 C2 C3 C4 C5 C6 C7
  have e1 : ∀ W, (Go.binOp .eql 24 (.agg #[.int .u64 b1, .int .u64 b0]) (.agg #[.int .u64 0, .int .u64 0])).run Try.prog W = .ok (.bool false) W := fun W => by rw [eq_two, hz]
  have e2 := eq_two_true 0 0; have e3 := four_true a3 a2 a1 a0
  clear hz
  go_enter Try.func7, Try.ntmps7
  go_wp2_with fail
  refine (K1.out _).mono ?_
  rintro e w1 ⟨rfl, hb⟩
  have HBw1 : Hid (Below w.heap.size w w1) := bl_trans (by repeat (first | exact Below.refl _ _ | exact Hid.out (by assumption) | with_reducible refine bl_al ?_ _ | with_reducible apply Below.drew)) hb
  have h_a_w1 : Hid (Has (w.heap.size) [.int .u64 a3, .int .u64 a2, .int .u64 a1, .int .u64 a0] w1) := Has.step (Has.mk4 (by simp <;> omega) (by simp [go_sem]) (by simp [go_sem]) (by simp [go_sem]) (by simp [go_sem])) hb
  have h_b_w1 : Hid (Has (w.heap.size + 1) [.int .u64 b1, .int .u64 b0] w1) := Has.step (Has.mk2 (by simp <;> omega) (by simp [go_sem]) (by simp [go_sem])) hb
  clear hb
  have h_a := h_a_w1; clear h_a_w1; have z_a := h_a.out.1; have c_a_0 := h_a.out.2 0 _ rfl; have c_a_1 := h_a.out.2 1 _ rfl; have c_a_2 := h_a.out.2 2 _ rfl; have c_a_3 := h_a.out.2 3 _ rfl
  have h_b := h_b_w1; clear h_b_w1; have z_b := h_b.out.1; have c_b_0 := h_b.out.2 0 _ rfl; have c_b_1 := h_b.out.2 1 _ rfl
  have P0 : RestP w a3 a2 a1 a0 b1 b0 w1.heap.size q3 q2 q1 q0 r1 r0 ((w1.alloc (.cells #[.int .u64 q3, .int .u64 q2, .int .u64 q1, .int .u64 q0] 33)).alloc (.cells #[.int .u64 r1, .int .u64 r0] 24)) :=
    ⟨bl_al (bl_al HBw1.out _) _, z_b, by simp, h_a.out.step (bl_al (bl_al (Below.refl _ _) _) _), h_b.out.step (bl_al (bl_al (Below.refl _ _) _) _), Has.mk4 (by simp <;> omega) (by simp [go_sem]) (by simp [go_sem]) (by simp [go_sem]) (by simp [go_sem]), Has.mk2 (by simp <;> omega) (by simp [go_sem]) (by simp [go_sem])⟩
  have HP0 := Lib.hid P0
  clear P0 HBw1
  have ltt : ∀ n : Nat, n < n + 1 + 1 := fun n => by omega
  have y1 : w.heap.size + 1 < w1.heap.size + 1 := by omega
  have y2 : w.heap.size + 1 < w1.heap.size + 1 + 1 := by omega
  have y3 : w.heap.size + 1 < w1.heap.size + 1 + 1 + 1 := by omega
  have y4 : w.heap.size < w1.heap.size := by omega
  have y5 : w.heap.size < w1.heap.size + 1 := by omega
  have y6 : w.heap.size < w1.heap.size + 1 + 1 := by omega
  have y7 : w.heap.size < w1.heap.size + 1 + 1 + 1 := by omega
  go_upto_region 4 with fail
  go_cut [8, 9] (fun s5 s6 wx => ∃ bx cx : Nat, s5 = .pointer (some ⟨bx, 0, none⟩) ∧ s6 = .pointer (some ⟨cx, 0, none⟩) ∧ Has bx [.int .u64 l3, .int .u64 l2, .int .u64 l1, .int .u64 l0] wx ∧ Has cx [.int .u64 0, .int .u64 0, .int .u64 h1, .int .u64 h0] wx ∧ RestP w a3 a2 a1 a0 b1 b0 w1.heap.size q3 q2 q1 q0 r1 r0 wx)
  case first =>
    go_region_held3 (fun w' => w'.cell? ⟨w.heap.size + 1, 0, none⟩ = some (.int .u64 b1) ∧ w'.cell? ⟨w.heap.size + 1, 1, none⟩ = some (.int .u64 b0) ∧ w'.cell? ⟨w1.heap.size, 0, none⟩ = some (.int .u64 q3) ∧ w'.cell? ⟨w1.heap.size, 1, none⟩ = some (.int .u64 q2) ∧ w'.cell? ⟨w1.heap.size, 2, none⟩ = some (.int .u64 q1) ∧ w'.cell? ⟨w1.heap.size, 3, none⟩ = some (.int .u64 q0)) (simp [*, go_sem])
      (first
        | (go_at_call 19; (with_reducible refine (K2.out _).mono ?_); rintro e w2 ⟨rfl, hb⟩; have HP1 := Lib.hid (HP0.out.step (bl_trans (by repeat (first | exact Below.refl _ _ | with_reducible refine bl_al ?_ _ | with_reducible apply Below.drew)) hb)); obtain ⟨hclc, hfrc⟩ := bcell hb; have hszc := hb.size; (try simp at hszc); have cb0 := HP1.out.2.2.2.2.1.2 0 _ rfl; have cb1 := HP1.out.2.2.2.2.1.2 1 _ rfl; have cq0 := HP1.out.2.2.2.2.2.1.2 0 _ rfl; have cq1 := HP1.out.2.2.2.2.2.1.2 1 _ rfl; have cq2 := HP1.out.2.2.2.2.2.1.2 2 _ rfl; have cq3 := HP1.out.2.2.2.2.2.1.2 3 _ rfl; have s0 := HP1.out.2.1; have s1 := HP1.out.2.2.1; have s2 : w1.heap.size < w2.heap.size := (by omega); have s3 : w.heap.size + 1 < w2.heap.size := (by omega); have s4 : w.heap.size < w2.heap.size := (by omega); (try have s5 : w1.heap.size + 1 + 1 < w2.heap.size := (by omega)); (try have s6 : w1.heap.size + 1 + 1 + 1 < w2.heap.size := (by omega)); clear hb)
        | (go_at_call 19; (with_reducible refine (K3.out _).mono ?_); rintro e w3 ⟨rfl, hb⟩; have HP2 := Lib.hid (HP1.out.step (bl_trans (by repeat (first | exact Below.refl _ _ | with_reducible refine bl_al ?_ _ | with_reducible apply Below.drew)) hb)); obtain ⟨hclk, hfrk⟩ := bcell hb; have hszk := hb.size; (try simp at hszk); have kb0 := HP2.out.2.2.2.2.1.2 0 _ rfl; have kb1 := HP2.out.2.2.2.2.1.2 1 _ rfl; have kq0 := HP2.out.2.2.2.2.2.1.2 0 _ rfl; have kq1 := HP2.out.2.2.2.2.2.1.2 1 _ rfl; have kq2 := HP2.out.2.2.2.2.2.1.2 2 _ rfl; have kq3 := HP2.out.2.2.2.2.2.1.2 3 _ rfl; have d0 := HP2.out.2.1; have d1 := HP2.out.2.2.1; have d2 : w1.heap.size < w3.heap.size := (by omega); have d3 : w.heap.size + 1 < w3.heap.size := (by omega); have d4 : w.heap.size < w3.heap.size := (by omega); (try have d5 : w1.heap.size + 1 + 1 < w3.heap.size := (by omega)); (try have d6 : w1.heap.size + 1 + 1 + 1 < w3.heap.size := (by omega)); have d8 : w2.heap.size ≤ w3.heap.size := (by omega); (try have d9 : w2.heap.size < w3.heap.size := (by omega)); (try have d10 : w2.heap.size + 1 < w3.heap.size := (by omega)); clear hb))
    all_goals (rename_i hHeld; clear hHeld; go_wp2_with fail; go_meet; exact ⟨_, _, rfl, rfl, Has.mk4 (by simp <;> omega) (by simp [go_sem, *]) (by simp [go_sem, *]) (by simp [go_sem, *]) (by simp [go_sem, *]), Has.mk4 (by simp <;> omega) (by simp [go_sem, *]) (by simp [go_sem, *]) (by simp [go_sem, *]) (by simp [go_sem, *]), HP2.out.upto (by go_grown)⟩)
  case rest =>
    obtain ⟨bx, cx, rfl, rfl, g_l, g_h, g_p, g_n, g_m, g_a, g_b, g_q, g_r⟩ := hcut
    have HBwc := Lib.hid g_p
    clear HP0 ltt y1 y2 y3 y4 y5 y6 y7 h_a h_b z_a z_b c_a_0 c_a_1 c_a_2 c_a_3 c_b_0 c_b_1 K1 K2 K3
    have h_a := Lib.hid g_a; clear g_a; have z_a := h_a.out.1; have c_a_0 := h_a.out.2 0 _ rfl; have c_a_1 := h_a.out.2 1 _ rfl; have c_a_2 := h_a.out.2 2 _ rfl; have c_a_3 := h_a.out.2 3 _ rfl
    have h_b := Lib.hid g_b; clear g_b; have z_b := h_b.out.1; have c_b_0 := h_b.out.2 0 _ rfl; have c_b_1 := h_b.out.2 1 _ rfl
    have h_q := Lib.hid g_q; clear g_q; have z_q := h_q.out.1; have c_q_0 := h_q.out.2 0 _ rfl; have c_q_1 := h_q.out.2 1 _ rfl; have c_q_2 := h_q.out.2 2 _ rfl; have c_q_3 := h_q.out.2 3 _ rfl
    have h_r := Lib.hid g_r; clear g_r; have z_r := h_r.out.1; have c_r_0 := h_r.out.2 0 _ rfl; have c_r_1 := h_r.out.2 1 _ rfl
    have h_l := Lib.hid g_l; clear g_l; have z_l := h_l.out.1; have c_l_0 := h_l.out.2 0 _ rfl; have c_l_1 := h_l.out.2 1 _ rfl; have c_l_2 := h_l.out.2 2 _ rfl; have c_l_3 := h_l.out.2 3 _ rfl
    have h_h := Lib.hid g_h; clear g_h; have z_h := h_h.out.1; have c_h_0 := h_h.out.2 0 _ rfl; have c_h_1 := h_h.out.2 1 _ rfl; have c_h_2 := h_h.out.2 2 _ rfl; have c_h_3 := h_h.out.2 3 _ rfl
    clear g_p
    go_wp2_with fail
    refine (K4.out _).mono ?_
    rintro e w4 ⟨rfl, hb⟩
    have HBw4 : Hid (Below w.heap.size w w4) := bl_trans (by repeat (first | exact Below.refl _ _ | exact Hid.out (by assumption) | with_reducible refine bl_al ?_ _ | with_reducible apply Below.drew)) hb
    have h_a_w4 : Hid (Has (w.heap.size) [.int .u64 a3, .int .u64 a2, .int .u64 a1, .int .u64 a0] w4) := h_a.out.up (by repeat (first | exact Below.refl _ _ | with_reducible refine bl_al ?_ _ | with_reducible apply Below.drew)) hb
    have h_b_w4 : Hid (Has (w.heap.size + 1) [.int .u64 b1, .int .u64 b0] w4) := h_b.out.up (by repeat (first | exact Below.refl _ _ | with_reducible refine bl_al ?_ _ | with_reducible apply Below.drew)) hb
    have h_q_w4 : Hid (Has (w1.heap.size) [.int .u64 q3, .int .u64 q2, .int .u64 q1, .int .u64 q0] w4) := h_q.out.up (by repeat (first | exact Below.refl _ _ | with_reducible refine bl_al ?_ _ | with_reducible apply Below.drew)) hb
    have h_r_w4 : Hid (Has (w1.heap.size + 1) [.int .u64 r1, .int .u64 r0] w4) := h_r.out.up (by repeat (first | exact Below.refl _ _ | with_reducible refine bl_al ?_ _ | with_reducible apply Below.drew)) hb
    have h_l_w4 : Hid (Has (bx) [.int .u64 l3, .int .u64 l2, .int .u64 l1, .int .u64 l0] w4) := h_l.out.up (by repeat (first | exact Below.refl _ _ | with_reducible refine bl_al ?_ _ | with_reducible apply Below.drew)) hb
    have h_h_w4 : Hid (Has (cx) [.int .u64 0, .int .u64 0, .int .u64 h1, .int .u64 h0] w4) := h_h.out.up (by repeat (first | exact Below.refl _ _ | with_reducible refine bl_al ?_ _ | with_reducible apply Below.drew)) hb
    clear hb
    clear h_a z_a c_a_0 c_a_1 c_a_2 c_a_3
    clear h_b z_b c_b_0 c_b_1
    clear h_q z_q c_q_0 c_q_1 c_q_2 c_q_3
    clear h_r z_r c_r_0 c_r_1
    clear h_l z_l c_l_0 c_l_1 c_l_2 c_l_3
    clear h_h z_h c_h_0 c_h_1 c_h_2 c_h_3
    have h_a := h_a_w4; clear h_a_w4; have z_a := h_a.out.1; have c_a_0 := h_a.out.2 0 _ rfl; have c_a_1 := h_a.out.2 1 _ rfl; have c_a_2 := h_a.out.2 2 _ rfl; have c_a_3 := h_a.out.2 3 _ rfl
    have h_b := h_b_w4; clear h_b_w4; have z_b := h_b.out.1; have c_b_0 := h_b.out.2 0 _ rfl; have c_b_1 := h_b.out.2 1 _ rfl
    have h_q := h_q_w4; clear h_q_w4; have z_q := h_q.out.1; have c_q_0 := h_q.out.2 0 _ rfl; have c_q_1 := h_q.out.2 1 _ rfl; have c_q_2 := h_q.out.2 2 _ rfl; have c_q_3 := h_q.out.2 3 _ rfl
    have h_r := h_r_w4; clear h_r_w4; have z_r := h_r.out.1; have c_r_0 := h_r.out.2 0 _ rfl; have c_r_1 := h_r.out.2 1 _ rfl
    have h_l := h_l_w4; clear h_l_w4; have z_l := h_l.out.1; have c_l_0 := h_l.out.2 0 _ rfl; have c_l_1 := h_l.out.2 1 _ rfl; have c_l_2 := h_l.out.2 2 _ rfl; have c_l_3 := h_l.out.2 3 _ rfl
    have h_h := h_h_w4; clear h_h_w4; have z_h := h_h.out.1; have c_h_0 := h_h.out.2 0 _ rfl; have c_h_1 := h_h.out.2 1 _ rfl; have c_h_2 := h_h.out.2 2 _ rfl; have c_h_3 := h_h.out.2 3 _ rfl
    clear h_q z_q c_q_0 c_q_1 c_q_2 c_q_3
    go_wp2_with fail
    refine (K5.out _).mono ?_
    rintro e w5 ⟨rfl, hb⟩
    have HBw5 : Hid (Below w.heap.size w w5) := bl_trans (by repeat (first | exact Below.refl _ _ | exact Hid.out (by assumption) | with_reducible refine bl_al ?_ _ | with_reducible apply Below.drew)) hb
    have h_a_w5 : Hid (Has (w.heap.size) [.int .u64 a3, .int .u64 a2, .int .u64 a1, .int .u64 a0] w5) := h_a.out.up (by repeat (first | exact Below.refl _ _ | with_reducible refine bl_al ?_ _ | with_reducible apply Below.drew)) hb
    have h_b_w5 : Hid (Has (w.heap.size + 1) [.int .u64 b1, .int .u64 b0] w5) := h_b.out.up (by repeat (first | exact Below.refl _ _ | with_reducible refine bl_al ?_ _ | with_reducible apply Below.drew)) hb
    have h_r_w5 : Hid (Has (w1.heap.size + 1) [.int .u64 r1, .int .u64 r0] w5) := h_r.out.up (by repeat (first | exact Below.refl _ _ | with_reducible refine bl_al ?_ _ | with_reducible apply Below.drew)) hb
    have h_l_w5 : Hid (Has (bx) [.int .u64 l3, .int .u64 l2, .int .u64 l1, .int .u64 l0] w5) := h_l.out.up (by repeat (first | exact Below.refl _ _ | with_reducible refine bl_al ?_ _ | with_reducible apply Below.drew)) hb
    have h_h_w5 : Hid (Has (cx) [.int .u64 0, .int .u64 0, .int .u64 h1, .int .u64 h0] w5) := h_h.out.up (by repeat (first | exact Below.refl _ _ | with_reducible refine bl_al ?_ _ | with_reducible apply Below.drew)) hb
    have h_lo_w5 : Hid (Has (w4.heap.size) [.int .u64 a1, .int .u64 a0] w5) := Has.step (Has.mk2 (by simp <;> omega) (by simp [go_sem]) (by simp [go_sem])) hb
    clear hb
    clear h_a z_a c_a_0 c_a_1 c_a_2 c_a_3
    clear h_b z_b c_b_0 c_b_1
    clear h_r z_r c_r_0 c_r_1
    clear h_l z_l c_l_0 c_l_1 c_l_2 c_l_3
    clear h_h z_h c_h_0 c_h_1 c_h_2 c_h_3
    have h_a := h_a_w5; clear h_a_w5; have z_a := h_a.out.1; have c_a_0 := h_a.out.2 0 _ rfl; have c_a_1 := h_a.out.2 1 _ rfl; have c_a_2 := h_a.out.2 2 _ rfl; have c_a_3 := h_a.out.2 3 _ rfl
    have h_b := h_b_w5; clear h_b_w5; have z_b := h_b.out.1; have c_b_0 := h_b.out.2 0 _ rfl; have c_b_1 := h_b.out.2 1 _ rfl
    have h_r := h_r_w5; clear h_r_w5; have z_r := h_r.out.1; have c_r_0 := h_r.out.2 0 _ rfl; have c_r_1 := h_r.out.2 1 _ rfl
    have h_l := h_l_w5; clear h_l_w5; have z_l := h_l.out.1; have c_l_0 := h_l.out.2 0 _ rfl; have c_l_1 := h_l.out.2 1 _ rfl; have c_l_2 := h_l.out.2 2 _ rfl; have c_l_3 := h_l.out.2 3 _ rfl
    have h_h := h_h_w5; clear h_h_w5; have z_h := h_h.out.1; have c_h_0 := h_h.out.2 0 _ rfl; have c_h_1 := h_h.out.2 1 _ rfl; have c_h_2 := h_h.out.2 2 _ rfl; have c_h_3 := h_h.out.2 3 _ rfl
    have h_lo := h_lo_w5; clear h_lo_w5; have z_lo := h_lo.out.1; have c_lo_0 := h_lo.out.2 0 _ rfl; have c_lo_1 := h_lo.out.2 1 _ rfl
    clear h_l z_l c_l_0 c_l_1 c_l_2 c_l_3
    have n_a : ¬ (w.heap.size = w5.heap.size) := by omega
    have n_b : ¬ (w.heap.size + 1 = w5.heap.size) := by omega
    have n_r : ¬ (w1.heap.size + 1 = w5.heap.size) := by omega
    have n_h : ¬ (cx = w5.heap.size) := by omega
    have n_lo : ¬ (w4.heap.size = w5.heap.size) := by omega
    have n_w : w.heap.size ≤ w5.heap.size := HBw5.out.size
    go_wp2_with fail
    refine (K7.out _).mono ?_
    rintro e w6 ⟨rfl, hb⟩
    have zf : ∀ j, w6.frozen? ⟨w5.heap.size, j, none⟩ = false := fun j => by rw [(bcell hb).2 _ _ (by simp <;> omega)]; first | (simp [go_sem]; done) | (simp [frozen?_alloc_cells, World.frozen?]; done)
    have HBw6 : Hid (Below w.heap.size w w6) := bl_trans (by repeat (first | exact Below.refl _ _ | exact Hid.out (by assumption) | with_reducible refine bl_al ?_ _ | with_reducible apply Below.drew)) hb
    have h_a_w6 : Hid (Has (w.heap.size) [.int .u64 a3, .int .u64 a2, .int .u64 a1, .int .u64 a0] w6) := h_a.out.up (by repeat (first | exact Below.refl _ _ | with_reducible refine bl_al ?_ _ | with_reducible apply Below.drew)) hb
    have h_b_w6 : Hid (Has (w.heap.size + 1) [.int .u64 b1, .int .u64 b0] w6) := h_b.out.up (by repeat (first | exact Below.refl _ _ | with_reducible refine bl_al ?_ _ | with_reducible apply Below.drew)) hb
    have h_r_w6 : Hid (Has (w1.heap.size + 1) [.int .u64 r1, .int .u64 r0] w6) := h_r.out.up (by repeat (first | exact Below.refl _ _ | with_reducible refine bl_al ?_ _ | with_reducible apply Below.drew)) hb
    have h_h_w6 : Hid (Has (cx) [.int .u64 0, .int .u64 0, .int .u64 h1, .int .u64 h0] w6) := h_h.out.up (by repeat (first | exact Below.refl _ _ | with_reducible refine bl_al ?_ _ | with_reducible apply Below.drew)) hb
    have h_lo_w6 : Hid (Has (w4.heap.size) [.int .u64 a1, .int .u64 a0] w6) := h_lo.out.up (by repeat (first | exact Below.refl _ _ | with_reducible refine bl_al ?_ _ | with_reducible apply Below.drew)) hb
    have h_hi_w6 : Hid (Has (w5.heap.size) [.int .u64 s1, .int .u64 s0] w6) := Has.step (Has.mk2 (by simp <;> omega) (by simp [go_sem]) (by simp [go_sem])) hb
    clear hb
    clear h_a z_a c_a_0 c_a_1 c_a_2 c_a_3
    clear h_b z_b c_b_0 c_b_1
    clear h_r z_r c_r_0 c_r_1
    clear h_h z_h c_h_0 c_h_1 c_h_2 c_h_3
    clear h_lo z_lo c_lo_0 c_lo_1
    have h_a := h_a_w6; clear h_a_w6; have z_a := h_a.out.1; have c_a_0 := h_a.out.2 0 _ rfl; have c_a_1 := h_a.out.2 1 _ rfl; have c_a_2 := h_a.out.2 2 _ rfl; have c_a_3 := h_a.out.2 3 _ rfl
    have h_b := h_b_w6; clear h_b_w6; have z_b := h_b.out.1; have c_b_0 := h_b.out.2 0 _ rfl; have c_b_1 := h_b.out.2 1 _ rfl
    have h_r := h_r_w6; clear h_r_w6; have z_r := h_r.out.1; have c_r_0 := h_r.out.2 0 _ rfl; have c_r_1 := h_r.out.2 1 _ rfl
    have h_h := h_h_w6; clear h_h_w6; have z_h := h_h.out.1; have c_h_0 := h_h.out.2 0 _ rfl; have c_h_1 := h_h.out.2 1 _ rfl; have c_h_2 := h_h.out.2 2 _ rfl; have c_h_3 := h_h.out.2 3 _ rfl
    have h_lo := h_lo_w6; clear h_lo_w6; have z_lo := h_lo.out.1; have c_lo_0 := h_lo.out.2 0 _ rfl; have c_lo_1 := h_lo.out.2 1 _ rfl
    have h_hi := h_hi_w6; clear h_hi_w6; have z_hi := h_hi.out.1; have c_hi_0 := h_hi.out.2 0 _ rfl; have c_hi_1 := h_hi.out.2 1 _ rfl
    go_wp2_with fail
    refine (K6.out _).mono ?_
    rintro e w7 ⟨rfl, hb⟩
    have HBw7 : Hid (Below w.heap.size w w7) := bl_trans (by repeat (first | exact Below.refl _ _ | exact Hid.out (by assumption) | with_reducible refine bl_al ?_ _ | with_reducible refine Below.setCell ?_ (by simp <;> omega) _ | with_reducible apply Below.drew)) hb
    have h_a_w7 : Hid (Has (w.heap.size) [.int .u64 a3, .int .u64 a2, .int .u64 a1, .int .u64 a0] w7) := Has.step (Has.mk4 (by simp <;> omega) (by simp [go_sem, *]) (by simp [go_sem, *]) (by simp [go_sem, *]) (by simp [go_sem, *])) hb
    have h_b_w7 : Hid (Has (w.heap.size + 1) [.int .u64 b1, .int .u64 b0] w7) := Has.step (Has.mk2 (by simp <;> omega) (by simp [go_sem, *]) (by simp [go_sem, *])) hb
    have h_r_w7 : Hid (Has (w1.heap.size + 1) [.int .u64 r1, .int .u64 r0] w7) := Has.step (Has.mk2 (by simp <;> omega) (by simp [go_sem, *]) (by simp [go_sem, *])) hb
    have h_h_w7 : Hid (Has (cx) [.int .u64 0, .int .u64 0, .int .u64 h1, .int .u64 h0] w7) := Has.step (Has.mk4 (by simp <;> omega) (by simp [go_sem, *]) (by simp [go_sem, *]) (by simp [go_sem, *]) (by simp [go_sem, *])) hb
    have h_lo_w7 : Hid (Has (w4.heap.size) [.int .u64 a1, .int .u64 a0] w7) := Has.step (Has.mk2 (by simp <;> omega) (by simp [go_sem, *]) (by simp [go_sem, *])) hb
    have h_hi_w7 : Hid (Has (w5.heap.size) [.int .u64 a3, .int .u64 a2] w7) := Has.step (Has.mk2 (by simp <;> omega) (by simp [go_sem, *]) (by simp [go_sem, *])) hb
    clear hb zf n_w n_a n_b n_r n_h n_lo
    clear h_a z_a c_a_0 c_a_1 c_a_2 c_a_3
    clear h_b z_b c_b_0 c_b_1
    clear h_r z_r c_r_0 c_r_1
    clear h_h z_h c_h_0 c_h_1 c_h_2 c_h_3
    clear h_lo z_lo c_lo_0 c_lo_1
    clear h_hi z_hi c_hi_0 c_hi_1
    have h_a := h_a_w7; clear h_a_w7; have z_a := h_a.out.1; have c_a_0 := h_a.out.2 0 _ rfl; have c_a_1 := h_a.out.2 1 _ rfl; have c_a_2 := h_a.out.2 2 _ rfl; have c_a_3 := h_a.out.2 3 _ rfl
    have h_b := h_b_w7; clear h_b_w7; have z_b := h_b.out.1; have c_b_0 := h_b.out.2 0 _ rfl; have c_b_1 := h_b.out.2 1 _ rfl
    have h_r := h_r_w7; clear h_r_w7; have z_r := h_r.out.1; have c_r_0 := h_r.out.2 0 _ rfl; have c_r_1 := h_r.out.2 1 _ rfl
    have h_h := h_h_w7; clear h_h_w7; have z_h := h_h.out.1; have c_h_0 := h_h.out.2 0 _ rfl; have c_h_1 := h_h.out.2 1 _ rfl; have c_h_2 := h_h.out.2 2 _ rfl; have c_h_3 := h_h.out.2 3 _ rfl
    have h_lo := h_lo_w7; clear h_lo_w7; have z_lo := h_lo.out.1; have c_lo_0 := h_lo.out.2 0 _ rfl; have c_lo_1 := h_lo.out.2 1 _ rfl
    have h_hi := h_hi_w7; clear h_hi_w7; have z_hi := h_hi.out.1; have c_hi_0 := h_hi.out.2 0 _ rfl; have c_hi_1 := h_hi.out.2 1 _ rfl
    go_wp2_with fail
    refine (awake_true _).mono ?_
    rintro e w8 ⟨rfl, hb⟩
    have HBw8 : Hid (Below w.heap.size w w8) := bl_trans (by repeat (first | exact Below.refl _ _ | exact Hid.out (by assumption) | with_reducible refine bl_al ?_ _ | with_reducible apply Below.drew)) hb
    have h_a_w8 : Hid (Has (w.heap.size) [.int .u64 a3, .int .u64 a2, .int .u64 a1, .int .u64 a0] w8) := h_a.out.up (by repeat (first | exact Below.refl _ _ | with_reducible refine bl_al ?_ _ | with_reducible apply Below.drew)) hb
    have h_b_w8 : Hid (Has (w.heap.size + 1) [.int .u64 b1, .int .u64 b0] w8) := h_b.out.up (by repeat (first | exact Below.refl _ _ | with_reducible refine bl_al ?_ _ | with_reducible apply Below.drew)) hb
    have h_r_w8 : Hid (Has (w1.heap.size + 1) [.int .u64 r1, .int .u64 r0] w8) := h_r.out.up (by repeat (first | exact Below.refl _ _ | with_reducible refine bl_al ?_ _ | with_reducible apply Below.drew)) hb
    have h_h_w8 : Hid (Has (cx) [.int .u64 0, .int .u64 0, .int .u64 h1, .int .u64 h0] w8) := h_h.out.up (by repeat (first | exact Below.refl _ _ | with_reducible refine bl_al ?_ _ | with_reducible apply Below.drew)) hb
    have h_lo_w8 : Hid (Has (w4.heap.size) [.int .u64 a1, .int .u64 a0] w8) := h_lo.out.up (by repeat (first | exact Below.refl _ _ | with_reducible refine bl_al ?_ _ | with_reducible apply Below.drew)) hb
    have h_hi_w8 : Hid (Has (w5.heap.size) [.int .u64 a3, .int .u64 a2] w8) := h_hi.out.up (by repeat (first | exact Below.refl _ _ | with_reducible refine bl_al ?_ _ | with_reducible apply Below.drew)) hb
    clear hb
    clear h_a z_a c_a_0 c_a_1 c_a_2 c_a_3
    clear h_b z_b c_b_0 c_b_1
    clear h_r z_r c_r_0 c_r_1
    clear h_h z_h c_h_0 c_h_1 c_h_2 c_h_3
    clear h_lo z_lo c_lo_0 c_lo_1
    clear h_hi z_hi c_hi_0 c_hi_1
    have h_a := h_a_w8; clear h_a_w8; have z_a := h_a.out.1; have c_a_0 := h_a.out.2 0 _ rfl; have c_a_1 := h_a.out.2 1 _ rfl; have c_a_2 := h_a.out.2 2 _ rfl; have c_a_3 := h_a.out.2 3 _ rfl
    have h_b := h_b_w8; clear h_b_w8; have z_b := h_b.out.1; have c_b_0 := h_b.out.2 0 _ rfl; have c_b_1 := h_b.out.2 1 _ rfl
    have h_r := h_r_w8; clear h_r_w8; have z_r := h_r.out.1; have c_r_0 := h_r.out.2 0 _ rfl; have c_r_1 := h_r.out.2 1 _ rfl
    have h_h := h_h_w8; clear h_h_w8; have z_h := h_h.out.1; have c_h_0 := h_h.out.2 0 _ rfl; have c_h_1 := h_h.out.2 1 _ rfl; have c_h_2 := h_h.out.2 2 _ rfl; have c_h_3 := h_h.out.2 3 _ rfl
    have h_lo := h_lo_w8; clear h_lo_w8; have z_lo := h_lo.out.1; have c_lo_0 := h_lo.out.2 0 _ rfl; have c_lo_1 := h_lo.out.2 1 _ rfl
    have h_hi := h_hi_w8; clear h_hi_w8; have z_hi := h_hi.out.1; have c_hi_0 := h_hi.out.2 0 _ rfl; have c_hi_1 := h_hi.out.2 1 _ rfl
    go_wp2_with fail
    go_returns
    exact ⟨rfl, by repeat (first | exact Below.refl _ _ | exact Hid.out (by assumption) | with_reducible refine bl_al ?_ _ | with_reducible apply Below.drew)⟩
set_option maxHeartbeats 4000000 in
theorem limbRest_zero (a3 a2 a1 a0 : Int)  (w : World)
    (C1 : ∀ W, Calls Try.prog 17 #[.agg #[.int .u64 a3, .int .u64 a2, .int .u64 a1, .int .u64 a0], .agg #[.int .u64 0, .int .u64 0]] W fun e w' => e = .returned (.tuple #[.agg #[.int .u64 0, .int .u64 0, .int .u64 0, .int .u64 0], .agg #[.int .u64 0, .int .u64 0], .bool false]) ∧ Below W.heap.size W w') :
    Calls Try.prog 7 #[.agg #[.int .u64 a3, .int .u64 a2, .int .u64 a1, .int .u64 a0], .agg #[.int .u64 0, .int .u64 0]] w fun e w' => e = .returned (.bool true) ∧ Below w.heap.size w w' := by
  have K1 := Lib.hid C1
  clear C1
  have e1 := eq_two_true 0 0; have e2 := four_true 0 0 0 0
  go_enter Try.func7, Try.ntmps7
  go_wp2_with fail
  refine (K1.out _).mono ?_
  rintro e w1 ⟨rfl, hb⟩
  have HBw1 : Hid (Below w.heap.size w w1) := bl_trans (by repeat (first | exact Below.refl _ _ | exact Hid.out (by assumption) | with_reducible refine bl_al ?_ _ | with_reducible apply Below.drew)) hb
  have h_a_w1 : Hid (Has (w.heap.size) [.int .u64 a3, .int .u64 a2, .int .u64 a1, .int .u64 a0] w1) := Has.step (Has.mk4 (by simp <;> omega) (by simp [go_sem]) (by simp [go_sem]) (by simp [go_sem]) (by simp [go_sem])) hb
  have h_b_w1 : Hid (Has (w.heap.size + 1) [.int .u64 0, .int .u64 0] w1) := Has.step (Has.mk2 (by simp <;> omega) (by simp [go_sem]) (by simp [go_sem])) hb
  clear hb
  have h_a := h_a_w1; clear h_a_w1; have z_a := h_a.out.1; have c_a_0 := h_a.out.2 0 _ rfl; have c_a_1 := h_a.out.2 1 _ rfl; have c_a_2 := h_a.out.2 2 _ rfl; have c_a_3 := h_a.out.2 3 _ rfl
  have h_b := h_b_w1; clear h_b_w1; have z_b := h_b.out.1; have c_b_0 := h_b.out.2 0 _ rfl; have c_b_1 := h_b.out.2 1 _ rfl
  go_wp2_with fail
  refine (awake_true _).mono ?_
  rintro e w2 ⟨rfl, hb⟩
  have HBw2 : Hid (Below w.heap.size w w2) := bl_trans (by repeat (first | exact Below.refl _ _ | exact Hid.out (by assumption) | with_reducible refine bl_al ?_ _ | with_reducible apply Below.drew)) hb
  have h_a_w2 : Hid (Has (w.heap.size) [.int .u64 a3, .int .u64 a2, .int .u64 a1, .int .u64 a0] w2) := h_a.out.up (by repeat (first | exact Below.refl _ _ | with_reducible refine bl_al ?_ _ | with_reducible apply Below.drew)) hb
  have h_b_w2 : Hid (Has (w.heap.size + 1) [.int .u64 0, .int .u64 0] w2) := h_b.out.up (by repeat (first | exact Below.refl _ _ | with_reducible refine bl_al ?_ _ | with_reducible apply Below.drew)) hb
  have h_q_w2 : Hid (Has (w1.heap.size) [.int .u64 0, .int .u64 0, .int .u64 0, .int .u64 0] w2) := Has.step (Has.mk4 (by simp <;> omega) (by simp [go_sem]) (by simp [go_sem]) (by simp [go_sem]) (by simp [go_sem])) hb
  have h_r_w2 : Hid (Has (w1.heap.size + 1) [.int .u64 0, .int .u64 0] w2) := Has.step (Has.mk2 (by simp <;> omega) (by simp [go_sem]) (by simp [go_sem])) hb
  clear hb
  clear h_a z_a c_a_0 c_a_1 c_a_2 c_a_3
  clear h_b z_b c_b_0 c_b_1
  have h_a := h_a_w2; clear h_a_w2; have z_a := h_a.out.1; have c_a_0 := h_a.out.2 0 _ rfl; have c_a_1 := h_a.out.2 1 _ rfl; have c_a_2 := h_a.out.2 2 _ rfl; have c_a_3 := h_a.out.2 3 _ rfl
  have h_b := h_b_w2; clear h_b_w2; have z_b := h_b.out.1; have c_b_0 := h_b.out.2 0 _ rfl; have c_b_1 := h_b.out.2 1 _ rfl
  have h_q := h_q_w2; clear h_q_w2; have z_q := h_q.out.1; have c_q_0 := h_q.out.2 0 _ rfl; have c_q_1 := h_q.out.2 1 _ rfl; have c_q_2 := h_q.out.2 2 _ rfl; have c_q_3 := h_q.out.2 3 _ rfl
  have h_r := h_r_w2; clear h_r_w2; have z_r := h_r.out.1; have c_r_0 := h_r.out.2 0 _ rfl; have c_r_1 := h_r.out.2 1 _ rfl
  go_wp2_with fail
  go_returns
  exact ⟨rfl, by repeat (first | exact Below.refl _ _ | exact Hid.out (by assumption) | with_reducible refine bl_al ?_ _ | with_reducible apply Below.drew)⟩
theorem wd_mod1 (x : Nat) : wd x 1 = wd (x % 340282366920938463463374607431768211456) 1 := by rw [wd1, wd1]; omega
theorem wd_mod0 (x : Nat) : wd x 0 = wd (x % 340282366920938463463374607431768211456) 0 := by rw [wd0, wd0]; omega
theorem wd_is1 {x : Nat} {h l : Int} (hh : Wd h) (hl : Wd l) (e : x % 340282366920938463463374607431768211456 = v2 h l) : wd x 1 = h := by rw [wd_mod1, e, wd_v2_1 hh hl]
theorem wd_is0 {x : Nat} {h l : Int} (hh : Wd h) (hl : Wd l) (e : x % 340282366920938463463374607431768211456 = v2 h l) : wd x 0 = l := by rw [wd_mod0, e, wd_v2_0 hh hl]
theorem wd_none {x : Nat} (h : x < 340282366920938463463374607431768211456) : wd x 3 = 0 ∧ wd x 2 = 0 := by rw [wd3, wd2]; omega
/-- The quotient by halves. -/
theorem rest_sum {n b : Nat} : n / b / 340282366920938463463374607431768211456 * b * 340282366920938463463374607431768211456 + n / b % 340282366920938463463374607431768211456 * b + n % b = n := by
  have e1 := Nat.div_add_mod n b
  have e2 := Nat.div_add_mod (n / b) 340282366920938463463374607431768211456
  generalize n / b / 340282366920938463463374607431768211456 = H at *
  generalize n / b % 340282366920938463463374607431768211456 = L at *
  rw [← e2, Nat.mul_add, Nat.mul_comm b (340282366920938463463374607431768211456 * H), Nat.mul_comm b L, Nat.mul_assoc, Nat.mul_comm 340282366920938463463374607431768211456] at e1
  exact e1
theorem limbRest_walk (a3 a2 a1 a0 b1 b0 : Int) (h3 : Wd a3) (h2 : Wd a2) (h1 : Wd a1) (h0 : Wd a0) (k1 : Wd b1) (k0 : Wd b0) (w : World) :
    Calls Try.prog 7 #[.agg #[.int .u64 a3, .int .u64 a2, .int .u64 a1, .int .u64 a0], .agg #[.int .u64 b1, .int .u64 b0]] w fun e w' => e = .returned (.bool true) ∧ Below w.heap.size w w' := by
  by_cases hz : b1 = 0 ∧ b0 = 0
  · obtain ⟨rfl, rfl⟩ := hz
    exact limbRest_zero a3 a2 a1 a0 w (div_zero a3 a2 a1 a0)
  have hb : v2 b1 b0 ≠ 0 := fun e => hz (by obtain ⟨_, _⟩ := k1; obtain ⟨_, _⟩ := k0; unfold v2 at e; omega)
  have lb := v2_lt k1 k0
  have lA := v2_lt h3 h2; have lB := v2_lt h1 h0
  have en : v4 a3 a2 a1 a0 = v2 a3 a2 * 340282366920938463463374607431768211456 + v2 a1 a0 := rfl
  have C1 := div_any a3 a2 a1 a0 b1 b0 h3 h2 h1 h0 k1 k0 hb
  have sum := rest_sum (n := v4 a3 a2 a1 a0) (b := v2 b1 b0)
  have hr : v4 a3 a2 a1 a0 % v2 b1 b0 < v2 b1 b0 := Nat.mod_lt _ (by omega)
  have hq := Nat.div_le_self (v4 a3 a2 a1 a0) (v2 b1 b0)
  have t1 := v2_wd (v4 a3 a2 a1 a0 / v2 b1 b0)
  have t2 := v2_wd23 (v4 a3 a2 a1 a0 / v2 b1 b0)
  rw [Nat.mod_eq_of_lt (show v4 a3 a2 a1 a0 / v2 b1 b0 / 340282366920938463463374607431768211456 < 340282366920938463463374607431768211456 by omega)] at t2
  have C2 := mul_any (wd (v4 a3 a2 a1 a0 / v2 b1 b0) 1) (wd (v4 a3 a2 a1 a0 / v2 b1 b0) 0) b1 b0 (wd_wd _ _) (wd_wd _ _) k1 k0
  have m2 := mul_lt (wd_wd (v4 a3 a2 a1 a0 / v2 b1 b0) 1) (wd_wd (v4 a3 a2 a1 a0 / v2 b1 b0) 0) k1 k0
  have C3 := mul_any (wd (v4 a3 a2 a1 a0 / v2 b1 b0) 3) (wd (v4 a3 a2 a1 a0 / v2 b1 b0) 2) b1 b0 (wd_wd _ _) (wd_wd _ _) k1 k0
  rw [t1] at C2 m2
  rw [t2] at C3
  clear t1 t2 hq
  generalize v4 a3 a2 a1 a0 / v2 b1 b0 % 340282366920938463463374607431768211456 * v2 b1 b0 = L at *
  generalize v4 a3 a2 a1 a0 / v2 b1 b0 / 340282366920938463463374607431768211456 * v2 b1 b0 = H at *
  generalize v4 a3 a2 a1 a0 / v2 b1 b0 = q at *
  generalize v4 a3 a2 a1 a0 % v2 b1 b0 = r at *
  have lH : H < 340282366920938463463374607431768211456 := by omega
  obtain ⟨z3, z2⟩ := wd_none lH
  rw [z3, z2] at C3
  have C4 := add_any (wd L 1) (wd L 0) (wd r 1) (wd r 0) (wd_wd _ _) (wd_wd _ _) (wd_wd _ _) (wd_wd _ _)
  rw [v2_wd, v2_small (show r < 340282366920938463463374607431768211456 by omega), wd_is1 h1 h0 (show (L % 340282366920938463463374607431768211456 + r) % 340282366920938463463374607431768211456 = v2 a1 a0 by omega),
    wd_is0 h1 h0 (show (L % 340282366920938463463374607431768211456 + r) % 340282366920938463463374607431768211456 = v2 a1 a0 by omega)] at C4
  have C5 := add_any (wd L 3) (wd L 2) (wd H 1) (wd H 0) (wd_wd _ _) (wd_wd _ _) (wd_wd _ _) (wd_wd _ _)
  rw [v2_wd23, v2_small lH, Nat.mod_eq_of_lt (show L / 340282366920938463463374607431768211456 < 340282366920938463463374607431768211456 by omega),
    decide_eq_false (show ¬ 340282366920938463463374607431768211456 ≤ L / 340282366920938463463374607431768211456 + H by omega)] at C5
  have C6 := sub_any (wd r 1) (wd r 0) b1 b0 (wd_wd _ _) (wd_wd _ _) k1 k0
  rw [v2_small (show r < 340282366920938463463374607431768211456 by omega), decide_eq_true hr] at C6
  by_cases c : 340282366920938463463374607431768211456 ≤ L % 340282366920938463463374607431768211456 + r
  · rw [decide_eq_true c] at C4
    have C7 := add_any (wd (L / 340282366920938463463374607431768211456 + H) 1) (wd (L / 340282366920938463463374607431768211456 + H) 0) 0 1 (wd_wd _ _) (wd_wd _ _) ⟨by omega, by omega⟩ ⟨by omega, by omega⟩
    rw [v2_small (show L / 340282366920938463463374607431768211456 + H < 340282366920938463463374607431768211456 by omega), show v2 0 1 = 1 from rfl, decide_eq_false (show ¬ 340282366920938463463374607431768211456 ≤ L / 340282366920938463463374607431768211456 + H + 1 by omega),
      wd_is1 h3 h2 (show (L / 340282366920938463463374607431768211456 + H + 1) % 340282366920938463463374607431768211456 = v2 a3 a2 by omega), wd_is0 h3 h2 (show (L / 340282366920938463463374607431768211456 + H + 1) % 340282366920938463463374607431768211456 = v2 a3 a2 by omega)] at C7
    exact limbRest_carry a3 a2 a1 a0 b1 b0 _ _ _ _ _ _ _ _ _ _ _ _ _ _ _ _ (decide_eq_false hz) w C1 C2 C3 C4 C5 C6 C7
  · rw [decide_eq_false c] at C4
    rw [wd_is1 h3 h2 (show (L / 340282366920938463463374607431768211456 + H) % 340282366920938463463374607431768211456 = v2 a3 a2 by omega), wd_is0 h3 h2 (show (L / 340282366920938463463374607431768211456 + H) % 340282366920938463463374607431768211456 = v2 a3 a2 by omega)] at C5
    exact limbRest_plain a3 a2 a1 a0 b1 b0 _ _ _ _ _ _ _ _ _ _ _ _ _ _ (decide_eq_false hz) w C1 C2 C3 C4 C5 C6

set_option maxRecDepth 100000 in
theorem limbRest_lifted (os : Os) (started : os.Started) (H : Type) (enc : TypeId × Value → H) :
    ReturnsInHanded {} Try.checked os 7 .any (Rows.limbRestSpec.pre6 enc Try.prog Try.f7 Rows.limbRestRow.domain false) (Rows.limbRestSpec.post enc Try.prog Try.f7 false true false false) := by
  refine returnsInHanded_of_change (C := Try.checked) Try.own started (by kernel_rfl) Try.func7
    (ChangeSpec.witness6 (enc := enc) (C := Try.checked) false ⟨#[], #[.agg #[.int .u64 0, .int .u64 0, .int .u64 0, .int .u64 0], .agg #[.int .u64 0, .int .u64 0]], []⟩ 8 (by kernel_rfl) (by kernel_rfl) (by kernel_rfl) (by kernel_rfl)) ?_
  intro W base args ds gs before hval0 hW hcnd _
  have hval : ∀ (j : Nat) t v, Try.f7.params[j]? = some t → args[j]? = some v → Value.okWide Try.prog W .any base t v := hval0
  have hW' := hW
  obtain ⟨p, q, hA0, hV, rfl, hfz, hnd⟩ := hW
  have hA : DataW.TrodAll enc Try.prog W 0 (fun _ => true) true Try.f7.params.toList args.toList ds p := hA0
  rw [Try.params7] at hA hval
  obtain ⟨v0, v1, d0, d1, p0, p1, rfl, rfl, rfl, h0, h1⟩ := trodAll_two hA
  obtain ⟨rfl, rfl⟩ := trodVars_none hV
  obtain ⟨a3, a2, a1, a0, rfl, rfl, rfl, k00, k01, k02, k03⟩ := open_four (hval 0 33 v0 rfl rfl) h0
  obtain ⟨b1, b0, rfl, rfl, rfl, k10, k11⟩ := open_two (hval 1 24 v1 rfl rfl) h1
  clear hA0 hval0
  simp only [List.append_nil] at hW'
  refine (limbRest_walk a3 a2 a1 a0 b1 b0 k00 k01 k02 k03 k10 k11 W).mono fun e W' ⟨he, hb⟩ => ?_
  subst he
  exact ⟨_, rfl, _, _, _, [], [], [], hW', trodAll_mk1 (shut_bool Try.underlying4 _), trodAll_mk2 (shut_four k00 k01 k02 k03) (shut_two k10 k11), rfl, hb.frame _, fun h => by cases h⟩

theorem limbRest_holds : Rows.LimbRestSaid :=
  OpenClaim.holds_of_wide 7 Try.f7 rfl rfl rfl rfl rfl rfl rfl ⟨rfl, rfl, rfl, rfl, rfl⟩ rfl rfl rfl rfl rfl (by kernel_rfl) Try.func7 (by kernel_rfl)
    (of_decide_eq_true (by kernel_rfl)) (by unfold Func.isWrapper; first | (rw [if_pos (by decide +kernel)]; kernel_rfl) | (rw [if_neg (by decide +kernel)]; exact ⟨rfl, rfl⟩))
    (fun os started H enc _ => limbRest_lifted os started H enc)
end Go.Proofs.Ytbpgokkdhkdabaa
