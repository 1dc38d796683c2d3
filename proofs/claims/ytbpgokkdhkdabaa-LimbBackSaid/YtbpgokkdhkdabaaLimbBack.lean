/- LimbBack: what is added is taken away again; both ways round a sum is one; it loses something just where it is less. For any two numbers of two words, without conditions. -/
import Derived.Test.YtbpgokkdhkdabaaLaw
namespace Go.Proofs.Ytbpgokkdhkdabaa
open Go.ChangeShapes Go.WideShapes Go.ChangeAt Go.RowKit Go.Joins

set_option maxHeartbeats 4000000 in
theorem limbBack_core (a1 a0 b1 b0 s1 s0 : Int) (c : Bool) (w : World)
    (C1 : ∀ W, Calls Try.prog 12 #[.agg #[.int .u64 a1, .int .u64 a0], .agg #[.int .u64 b1, .int .u64 b0]] W fun e w' => e = .returned (.tuple #[.agg #[.int .u64 s1, .int .u64 s0], .bool c]) ∧ Below W.heap.size W w')
    (C2 : ∀ W, Calls Try.prog 12 #[.agg #[.int .u64 b1, .int .u64 b0], .agg #[.int .u64 a1, .int .u64 a0]] W fun e w' => e = .returned (.tuple #[.agg #[.int .u64 s1, .int .u64 s0], .bool c]) ∧ Below W.heap.size W w')
    (C3 : ∀ W, Calls Try.prog 13 #[.agg #[.int .u64 s1, .int .u64 s0], .agg #[.int .u64 b1, .int .u64 b0]] W fun e w' => e = .returned (.tuple #[.agg #[.int .u64 a1, .int .u64 a0], .bool c]) ∧ Below W.heap.size W w')
    (C4 : ∀ W, Calls Try.prog 13 #[.agg #[.int .u64 a1, .int .u64 a0], .agg #[.int .u64 a1, .int .u64 a0]] W fun e w' => e = .returned (.tuple #[.agg #[.int .u64 0, .int .u64 0], .bool false]) ∧ Below W.heap.size W w') :
    Calls Try.prog 6 #[.agg #[.int .u64 a1, .int .u64 a0], .agg #[.int .u64 b1, .int .u64 b0]] w fun e w' => e = .returned (.bool true) ∧ Below w.heap.size w w' := by
  have K1 := Lib.hid C1; have K2 := Lib.hid C2; have K3 := Lib.hid C3; have K4 := Lib.hid C4
  clear C1 C2 C3 C4
  have q1 := eq_two_true s1 s0
  have q2 := eq_two_true a1 a0
  have q3 := eq_two_true 0 0
  go_enter Try.func6, Try.ntmps6
  go_wp2_with fail
  refine (K1.out _).mono ?_
  rintro e w1 ⟨rfl, hb⟩
  have HBw1 : Hid (Below w.heap.size w w1) := bl_trans (by repeat (first | exact Below.refl _ _ | exact Hid.out (by assumption) | with_reducible refine bl_al ?_ _ | with_reducible apply Below.drew)) hb
  have h_a_w1 : Hid (Has (w.heap.size) [.int .u64 a1, .int .u64 a0] w1) := Has.step (Has.mk2 (by simp <;> omega) (by simp [go_sem]) (by simp [go_sem])) hb
  have h_b_w1 : Hid (Has (w.heap.size + 1) [.int .u64 b1, .int .u64 b0] w1) := Has.step (Has.mk2 (by simp <;> omega) (by simp [go_sem]) (by simp [go_sem])) hb
  clear hb
  have h_a := h_a_w1; clear h_a_w1; have z_a := h_a.out.1; have c_a_0 := h_a.out.2 0 _ rfl; have c_a_1 := h_a.out.2 1 _ rfl
  have h_b := h_b_w1; clear h_b_w1; have z_b := h_b.out.1; have c_b_0 := h_b.out.2 0 _ rfl; have c_b_1 := h_b.out.2 1 _ rfl
  go_wp2_with fail
  refine (K2.out _).mono ?_
  rintro e w2 ⟨rfl, hb⟩
  have HBw2 : Hid (Below w.heap.size w w2) := bl_trans (by repeat (first | exact Below.refl _ _ | exact Hid.out (by assumption) | with_reducible refine bl_al ?_ _ | with_reducible apply Below.drew)) hb
  have h_a_w2 : Hid (Has (w.heap.size) [.int .u64 a1, .int .u64 a0] w2) := h_a.out.up (by repeat (first | exact Below.refl _ _ | with_reducible refine bl_al ?_ _ | with_reducible apply Below.drew)) hb
  have h_b_w2 : Hid (Has (w.heap.size + 1) [.int .u64 b1, .int .u64 b0] w2) := h_b.out.up (by repeat (first | exact Below.refl _ _ | with_reducible refine bl_al ?_ _ | with_reducible apply Below.drew)) hb
  have h_s_w2 : Hid (Has (w1.heap.size) [.int .u64 s1, .int .u64 s0] w2) := Has.step (Has.mk2 (by simp <;> omega) (by simp [go_sem]) (by simp [go_sem])) hb
  clear hb
  clear h_a z_a c_a_0 c_a_1
  clear h_b z_b c_b_0 c_b_1
  have h_a := h_a_w2; clear h_a_w2; have z_a := h_a.out.1; have c_a_0 := h_a.out.2 0 _ rfl; have c_a_1 := h_a.out.2 1 _ rfl
  have h_b := h_b_w2; clear h_b_w2; have z_b := h_b.out.1; have c_b_0 := h_b.out.2 0 _ rfl; have c_b_1 := h_b.out.2 1 _ rfl
  have h_s := h_s_w2; clear h_s_w2; have z_s := h_s.out.1; have c_s_0 := h_s.out.2 0 _ rfl; have c_s_1 := h_s.out.2 1 _ rfl
  go_wp2_with fail
  refine (K3.out _).mono ?_
  rintro e w3 ⟨rfl, hb⟩
  have HBw3 : Hid (Below w.heap.size w w3) := bl_trans (by repeat (first | exact Below.refl _ _ | exact Hid.out (by assumption) | with_reducible refine bl_al ?_ _ | with_reducible apply Below.drew)) hb
  have h_a_w3 : Hid (Has (w.heap.size) [.int .u64 a1, .int .u64 a0] w3) := h_a.out.up (by repeat (first | exact Below.refl _ _ | with_reducible refine bl_al ?_ _ | with_reducible apply Below.drew)) hb
  have h_b_w3 : Hid (Has (w.heap.size + 1) [.int .u64 b1, .int .u64 b0] w3) := h_b.out.up (by repeat (first | exact Below.refl _ _ | with_reducible refine bl_al ?_ _ | with_reducible apply Below.drew)) hb
  have h_s_w3 : Hid (Has (w1.heap.size) [.int .u64 s1, .int .u64 s0] w3) := h_s.out.up (by repeat (first | exact Below.refl _ _ | with_reducible refine bl_al ?_ _ | with_reducible apply Below.drew)) hb
  have h_t_w3 : Hid (Has (w2.heap.size) [.int .u64 s1, .int .u64 s0] w3) := Has.step (Has.mk2 (by simp <;> omega) (by simp [go_sem]) (by simp [go_sem])) hb
  clear hb
  clear h_a z_a c_a_0 c_a_1
  clear h_b z_b c_b_0 c_b_1
  clear h_s z_s c_s_0 c_s_1
  have h_a := h_a_w3; clear h_a_w3; have z_a := h_a.out.1; have c_a_0 := h_a.out.2 0 _ rfl; have c_a_1 := h_a.out.2 1 _ rfl
  have h_b := h_b_w3; clear h_b_w3; have z_b := h_b.out.1; have c_b_0 := h_b.out.2 0 _ rfl; have c_b_1 := h_b.out.2 1 _ rfl
  have h_s := h_s_w3; clear h_s_w3; have z_s := h_s.out.1; have c_s_0 := h_s.out.2 0 _ rfl; have c_s_1 := h_s.out.2 1 _ rfl
  have h_t := h_t_w3; clear h_t_w3; have z_t := h_t.out.1; have c_t_0 := h_t.out.2 0 _ rfl; have c_t_1 := h_t.out.2 1 _ rfl
  go_wp2_with fail
  refine (K4.out _).mono ?_
  rintro e w4 ⟨rfl, hb⟩
  have HBw4 : Hid (Below w.heap.size w w4) := bl_trans (by repeat (first | exact Below.refl _ _ | exact Hid.out (by assumption) | with_reducible refine bl_al ?_ _ | with_reducible apply Below.drew)) hb
  have h_a_w4 : Hid (Has (w.heap.size) [.int .u64 a1, .int .u64 a0] w4) := h_a.out.up (by repeat (first | exact Below.refl _ _ | with_reducible refine bl_al ?_ _ | with_reducible apply Below.drew)) hb
  have h_b_w4 : Hid (Has (w.heap.size + 1) [.int .u64 b1, .int .u64 b0] w4) := h_b.out.up (by repeat (first | exact Below.refl _ _ | with_reducible refine bl_al ?_ _ | with_reducible apply Below.drew)) hb
  have h_s_w4 : Hid (Has (w1.heap.size) [.int .u64 s1, .int .u64 s0] w4) := h_s.out.up (by repeat (first | exact Below.refl _ _ | with_reducible refine bl_al ?_ _ | with_reducible apply Below.drew)) hb
  have h_t_w4 : Hid (Has (w2.heap.size) [.int .u64 s1, .int .u64 s0] w4) := h_t.out.up (by repeat (first | exact Below.refl _ _ | with_reducible refine bl_al ?_ _ | with_reducible apply Below.drew)) hb
  have h_u_w4 : Hid (Has (w3.heap.size) [.int .u64 a1, .int .u64 a0] w4) := Has.step (Has.mk2 (by simp <;> omega) (by simp [go_sem]) (by simp [go_sem])) hb
  clear hb
  clear h_a z_a c_a_0 c_a_1
  clear h_b z_b c_b_0 c_b_1
  clear h_s z_s c_s_0 c_s_1
  clear h_t z_t c_t_0 c_t_1
  have h_a := h_a_w4; clear h_a_w4; have z_a := h_a.out.1; have c_a_0 := h_a.out.2 0 _ rfl; have c_a_1 := h_a.out.2 1 _ rfl
  have h_b := h_b_w4; clear h_b_w4; have z_b := h_b.out.1; have c_b_0 := h_b.out.2 0 _ rfl; have c_b_1 := h_b.out.2 1 _ rfl
  have h_s := h_s_w4; clear h_s_w4; have z_s := h_s.out.1; have c_s_0 := h_s.out.2 0 _ rfl; have c_s_1 := h_s.out.2 1 _ rfl
  have h_t := h_t_w4; clear h_t_w4; have z_t := h_t.out.1; have c_t_0 := h_t.out.2 0 _ rfl; have c_t_1 := h_t.out.2 1 _ rfl
  have h_u := h_u_w4; clear h_u_w4; have z_u := h_u.out.1; have c_u_0 := h_u.out.2 0 _ rfl; have c_u_1 := h_u.out.2 1 _ rfl
  go_wp2_with fail
  refine (awake_true _).mono ?_
  rintro e w5 ⟨rfl, hb⟩
  have HBw5 : Hid (Below w.heap.size w w5) := bl_trans (by repeat (first | exact Below.refl _ _ | exact Hid.out (by assumption) | with_reducible refine bl_al ?_ _ | with_reducible apply Below.drew)) hb
  have h_a_w5 : Hid (Has (w.heap.size) [.int .u64 a1, .int .u64 a0] w5) := h_a.out.up (by repeat (first | exact Below.refl _ _ | with_reducible refine bl_al ?_ _ | with_reducible apply Below.drew)) hb
  have h_b_w5 : Hid (Has (w.heap.size + 1) [.int .u64 b1, .int .u64 b0] w5) := h_b.out.up (by repeat (first | exact Below.refl _ _ | with_reducible refine bl_al ?_ _ | with_reducible apply Below.drew)) hb
  have h_s_w5 : Hid (Has (w1.heap.size) [.int .u64 s1, .int .u64 s0] w5) := h_s.out.up (by repeat (first | exact Below.refl _ _ | with_reducible refine bl_al ?_ _ | with_reducible apply Below.drew)) hb
  have h_t_w5 : Hid (Has (w2.heap.size) [.int .u64 s1, .int .u64 s0] w5) := h_t.out.up (by repeat (first | exact Below.refl _ _ | with_reducible refine bl_al ?_ _ | with_reducible apply Below.drew)) hb
  have h_u_w5 : Hid (Has (w3.heap.size) [.int .u64 a1, .int .u64 a0] w5) := h_u.out.up (by repeat (first | exact Below.refl _ _ | with_reducible refine bl_al ?_ _ | with_reducible apply Below.drew)) hb
  have h_z_w5 : Hid (Has (w4.heap.size) [.int .u64 0, .int .u64 0] w5) := Has.step (Has.mk2 (by simp <;> omega) (by simp [go_sem]) (by simp [go_sem])) hb
  clear hb
  clear h_a z_a c_a_0 c_a_1
  clear h_b z_b c_b_0 c_b_1
  clear h_s z_s c_s_0 c_s_1
  clear h_t z_t c_t_0 c_t_1
  clear h_u z_u c_u_0 c_u_1
  have h_a := h_a_w5; clear h_a_w5; have z_a := h_a.out.1; have c_a_0 := h_a.out.2 0 _ rfl; have c_a_1 := h_a.out.2 1 _ rfl
  have h_b := h_b_w5; clear h_b_w5; have z_b := h_b.out.1; have c_b_0 := h_b.out.2 0 _ rfl; have c_b_1 := h_b.out.2 1 _ rfl
  have h_s := h_s_w5; clear h_s_w5; have z_s := h_s.out.1; have c_s_0 := h_s.out.2 0 _ rfl; have c_s_1 := h_s.out.2 1 _ rfl
  have h_t := h_t_w5; clear h_t_w5; have z_t := h_t.out.1; have c_t_0 := h_t.out.2 0 _ rfl; have c_t_1 := h_t.out.2 1 _ rfl
  have h_u := h_u_w5; clear h_u_w5; have z_u := h_u.out.1; have c_u_0 := h_u.out.2 0 _ rfl; have c_u_1 := h_u.out.2 1 _ rfl
  have h_z := h_z_w5; clear h_z_w5; have z_z := h_z.out.1; have c_z_0 := h_z.out.2 0 _ rfl; have c_z_1 := h_z.out.2 1 _ rfl
  go_wp2_with fail
  go_returns
  exact ⟨rfl, by repeat (first | exact Below.refl _ _ | exact Hid.out (by assumption) | with_reducible refine bl_al ?_ _ | with_reducible apply Below.drew)⟩
theorem limbBack_walk (a1 a0 b1 b0 : Int) (ha1 : Wd a1) (ha0 : Wd a0) (hb1 : Wd b1) (hb0 : Wd b0) (w : World) :
    Calls Try.prog 6 #[.agg #[.int .u64 a1, .int .u64 a0], .agg #[.int .u64 b1, .int .u64 b0]] w fun e w' => e = .returned (.bool true) ∧ Below w.heap.size w w' := by
  have hA := v2_lt ha1 ha0
  have hB := v2_lt hb1 hb0
  have K1 := add_any a1 a0 b1 b0 ha1 ha0 hb1 hb0
  have K2 := add_any b1 b0 a1 a0 hb1 hb0 ha1 ha0
  rw [Nat.add_comm (v2 b1 b0)] at K2
  have K3 := sub_any _ _ b1 b0 (wd_wd (v2 a1 a0 + v2 b1 b0) 1) (wd_wd (v2 a1 a0 + v2 b1 b0) 0) hb1 hb0
  rw [v2_wd, show decide ((v2 a1 a0 + v2 b1 b0) % 340282366920938463463374607431768211456 < v2 b1 b0) = decide (340282366920938463463374607431768211456 ≤ v2 a1 a0 + v2 b1 b0) by rw [decide_eq_decide]; omega,
    show wd ((v2 a1 a0 + v2 b1 b0) % 340282366920938463463374607431768211456 + (340282366920938463463374607431768211456 - v2 b1 b0)) 1 = a1 from (back_wd1 hA hB).trans (wd_v2_1 ha1 ha0),
    show wd ((v2 a1 a0 + v2 b1 b0) % 340282366920938463463374607431768211456 + (340282366920938463463374607431768211456 - v2 b1 b0)) 0 = a0 from (back_wd0 hA hB).trans (wd_v2_0 ha1 ha0)] at K3
  have K4 := sub_any a1 a0 a1 a0 ha1 ha0 ha1 ha0
  rw [show decide (v2 a1 a0 < v2 a1 a0) = false by simp,
    show wd (v2 a1 a0 + (340282366920938463463374607431768211456 - v2 a1 a0)) 1 = 0 by rw [wd1]; omega,
    show wd (v2 a1 a0 + (340282366920938463463374607431768211456 - v2 a1 a0)) 0 = 0 by rw [wd0]; omega] at K4
  exact limbBack_core a1 a0 b1 b0 _ _ _ w K1 K2 K3 K4

set_option maxRecDepth 100000 in
theorem limbBack_lifted (os : Os) (started : os.Started) (H : Type) (enc : TypeId × Value → H) :
    ReturnsInHanded {} Try.checked os 6 .any (Rows.limbBackSpec.pre6 enc Try.prog Try.f6 Rows.limbBackRow.domain false) (Rows.limbBackSpec.post enc Try.prog Try.f6 false true false false) := by
  refine returnsInHanded_of_change (C := Try.checked) Try.own started (by kernel_rfl) Try.func6
    (ChangeSpec.witness6 (enc := enc) (C := Try.checked) false ⟨#[], #[.agg #[.int .u64 0, .int .u64 0], .agg #[.int .u64 0, .int .u64 0]], []⟩ 8 (by kernel_rfl) (by kernel_rfl) (by kernel_rfl) (by kernel_rfl)) ?_
  intro W base args ds gs before hval0 hW hcnd _
  have hval : ∀ (j : Nat) t v, Try.f6.params[j]? = some t → args[j]? = some v → Value.okWide Try.prog W .any base t v := hval0
  have hW' := hW
  obtain ⟨p, q, hA0, hV, rfl, hfz, hnd⟩ := hW
  have hA : DataW.TrodAll enc Try.prog W 0 (fun _ => true) true Try.f6.params.toList args.toList ds p := hA0
  rw [Try.params6] at hA hval
  obtain ⟨v0, v1, d0, d1, p0, p1, rfl, rfl, rfl, h0, h1⟩ := trodAll_two hA
  obtain ⟨rfl, rfl⟩ := trodVars_none hV
  obtain ⟨a1, a0, rfl, rfl, rfl, k00, k01⟩ := open_two (hval 0 24 v0 rfl rfl) h0
  obtain ⟨b1, b0, rfl, rfl, rfl, k10, k11⟩ := open_two (hval 1 24 v1 rfl rfl) h1
  clear hA0 hval0
  simp only [List.append_nil] at hW'
  refine (limbBack_walk a1 a0 b1 b0 k00 k01 k10 k11 W).mono fun e W' ⟨he, hb⟩ => ?_
  subst he
  exact ⟨_, rfl, _, _, _, [], [], [], hW', trodAll_mk1 (shut_bool Try.underlying4 _), trodAll_mk2 (shut_two k00 k01) (shut_two k10 k11), rfl, hb.frame _, fun h => by cases h⟩

theorem limbBack_holds : Rows.LimbBackSaid :=
  OpenClaim.holds_of_wide 6 Try.f6 rfl rfl rfl rfl rfl rfl rfl ⟨rfl, rfl, rfl, rfl, rfl⟩ rfl rfl rfl rfl rfl (by kernel_rfl) Try.func6 (by kernel_rfl)
    (of_decide_eq_true (by kernel_rfl)) (by unfold Func.isWrapper; first | (rw [if_pos (by decide +kernel)]; kernel_rfl) | (rw [if_neg (by decide +kernel)]; exact ⟨rfl, rfl⟩))
    (fun os started H enc _ => limbBack_lifted os started H enc)
end Go.Proofs.Ytbpgokkdhkdabaa
