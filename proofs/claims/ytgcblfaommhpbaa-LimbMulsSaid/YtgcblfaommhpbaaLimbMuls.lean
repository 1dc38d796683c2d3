/- LimbMuls: the product of any two, and any quotient, is the document's. For any two numbers of two words and any one of four, without conditions. -/
import Derived.Test.YtgcblfaommhpbaaRefMulTwo
import Derived.Test.YtgcblfaommhpbaaRefDiv
import Derived.Test.YtgcblfaommhpbaaAwake
namespace Go.Proofs.Ytgcblfaommhpbaa
open Go.ChangeShapes Go.WideShapes Go.ChangeAt Go.RowKit Go.Joins

theorem eq_four_alike (a3 a2 a1 a0 : Int) : ∀ W, (Go.binOp .eql 26 (.agg #[.int .u64 a3, .int .u64 a2, .int .u64 a1, .int .u64 a0]) (.agg #[.int .u64 a3, .int .u64 a2, .int .u64 a1, .int .u64 a0])).run Try.prog W = .ok (.bool true) W := fun W => by
  simp [go_sem]
set_option maxRecDepth 20000 in
set_option maxHeartbeats 60000000 in
theorem limbMuls_core (a1 a0 b1 b0 c3 c2 c1 c0 q3 q2 q1 q0 r1 r0 m3 m2 m1 m0 : Int) (ok : Bool)  (w : World)
    (C1 : ∀ W, Calls Try.prog 14 #[.agg #[.int .u64 c3, .int .u64 c2, .int .u64 c1, .int .u64 c0], .agg #[.int .u64 b1, .int .u64 b0]] W fun e w' => e = .returned (.tuple #[.agg #[.int .u64 q3, .int .u64 q2, .int .u64 q1, .int .u64 q0], .agg #[.int .u64 r1, .int .u64 r0], .bool ok]) ∧ Below W.heap.size W w')
    (C2 : ∀ W, Calls Try.prog 15 #[.agg #[.int .u64 c3, .int .u64 c2, .int .u64 c1, .int .u64 c0], .agg #[.int .u64 b1, .int .u64 b0]] W fun e w' => e = .returned (.agg #[.int .u64 q3, .int .u64 q2, .int .u64 q1, .int .u64 q0, .int .u64 r1, .int .u64 r0, .bool ok]) ∧ Below W.heap.size W w')
    (C3 : ∀ W, Calls Try.prog 16 #[.agg #[.int .u64 a1, .int .u64 a0], .agg #[.int .u64 b1, .int .u64 b0]] W fun e w' => e = .returned (.agg #[.int .u64 m3, .int .u64 m2, .int .u64 m1, .int .u64 m0]) ∧ Below W.heap.size W w')
    (C4 : ∀ W, Calls Try.prog 17 #[.agg #[.int .u64 a1, .int .u64 a0], .agg #[.int .u64 b1, .int .u64 b0]] W fun e w' => e = .returned (.agg #[.int .u64 m3, .int .u64 m2, .int .u64 m1, .int .u64 m0]) ∧ Below W.heap.size W w')
    (C5 : ∀ W, Calls Try.prog 18 #[] W fun e w' => e = .returned (.bool true) ∧ Below W.heap.size W w') :
    Calls Try.prog 3 #[.agg #[.int .u64 a1, .int .u64 a0], .agg #[.int .u64 b1, .int .u64 b0], .agg #[.int .u64 c3, .int .u64 c2, .int .u64 c1, .int .u64 c0]] w fun e w' => e = .returned (.bool true) ∧ Below w.heap.size w w' := by
  have K1 := Lib.hid C1; have K2 := Lib.hid C2; have K3 := Lib.hid C3; have K4 := Lib.hid C4; have K5 := Lib.hid C5
  clear C1 C2 C3 C4 C5
  have e1 := eq_four_alike q3 q2 q1 q0; have e2 := eq_four_alike m3 m2 m1 m0; have e3 := eq_two_true r1 r0
  go_enter Try.func3, Try.ntmps3
  go_wp2_with fail
  (with_reducible refine (K1.out _).mono ?_); rintro e w1 ⟨rfl, hb⟩; obtain ⟨hclw1, hfrw1⟩ := bcell hb; have zw1_a : w.heap.size < w1.heap.size := (by first | omega | (have hz := hb.size; (try simp at hz); omega)); have yw1_a : w.heap.size < w1.heap.size + 1 := (by omega); have yyw1_a : w.heap.size < w1.heap.size + 1 + 1 := (by omega); have zw1_b : w.heap.size + 1 < w1.heap.size := (by first | omega | (have hz := hb.size; (try simp at hz); omega)); have yw1_b : w.heap.size + 1 < w1.heap.size + 1 := (by omega); have yyw1_b : w.heap.size + 1 < w1.heap.size + 1 + 1 := (by omega); have zw1_c : w.heap.size + 1 + 1 < w1.heap.size := (by first | omega | (have hz := hb.size; (try simp at hz); omega)); have yw1_c : w.heap.size + 1 + 1 < w1.heap.size + 1 := (by omega); have yyw1_c : w.heap.size + 1 + 1 < w1.heap.size + 1 + 1 := (by omega); have sxw1_0 : w.heap.size + 1 + 1 + 1 ≤ w1.heap.size := (by first | omega | (have hz := hb.size; (try simp at hz); omega)); have HBw1 : Hid (Below w.heap.size w w1) := (bl_trans (by repeat (first | with_reducible exact Below.refl _ _ | with_reducible exact Hid.out (by assumption) | with_reducible refine Below.setCell ?_ (by first | (simp; done) | omega | (simp <;> omega)) _ | with_reducible refine bl_al ?_ _ | with_reducible apply Below.drew)) hb); clear hb
  go_wp2_with fail
  (with_reducible refine (K2.out _).mono ?_); rintro e w2 ⟨rfl, hb⟩; obtain ⟨hclw2, hfrw2⟩ := bcell hb; have zw2_a : w.heap.size < w2.heap.size := (by first | omega | (have hz := hb.size; (try simp at hz); omega)); have yw2_a : w.heap.size < w2.heap.size + 1 := (by omega); have yyw2_a : w.heap.size < w2.heap.size + 1 + 1 := (by omega); have zw2_b : w.heap.size + 1 < w2.heap.size := (by first | omega | (have hz := hb.size; (try simp at hz); omega)); have yw2_b : w.heap.size + 1 < w2.heap.size + 1 := (by omega); have yyw2_b : w.heap.size + 1 < w2.heap.size + 1 + 1 := (by omega); have zw2_c : w.heap.size + 1 + 1 < w2.heap.size := (by first | omega | (have hz := hb.size; (try simp at hz); omega)); have yw2_c : w.heap.size + 1 + 1 < w2.heap.size + 1 := (by omega); have yyw2_c : w.heap.size + 1 + 1 < w2.heap.size + 1 + 1 := (by omega); have zw2_q : w1.heap.size < w2.heap.size := (by first | omega | (have hz := hb.size; (try simp at hz); omega)); have yw2_q : w1.heap.size < w2.heap.size + 1 := (by omega); have yyw2_q : w1.heap.size < w2.heap.size + 1 + 1 := (by omega); have zw2_r : w1.heap.size + 1 < w2.heap.size := (by first | omega | (have hz := hb.size; (try simp at hz); omega)); have yw2_r : w1.heap.size + 1 < w2.heap.size + 1 := (by omega); have yyw2_r : w1.heap.size + 1 < w2.heap.size + 1 + 1 := (by omega); have sxw2_0 : w1.heap.size + 1 + 1 ≤ w2.heap.size := (by first | omega | (have hz := hb.size; (try simp at hz); omega)); have HBw2 : Hid (Below w.heap.size w w2) := (bl_trans (by repeat (first | with_reducible exact Below.refl _ _ | with_reducible exact Hid.out (by assumption) | with_reducible refine Below.setCell ?_ (by first | (simp; done) | omega | (simp <;> omega)) _ | with_reducible refine bl_al ?_ _ | with_reducible apply Below.drew)) hb); clear hb
  go_upto_region 3 with fail
  refine name_world (P := fun W => Code.wp _ _ _ _ W) _ (fun R1 hR1 => ?_)
  have zR1_a : w.heap.size < R1.heap.size := by rw [hR1]; first | omega | (simp <;> omega)
  have yR1_a : w.heap.size < R1.heap.size + 1 := by omega
  have yyR1_a : w.heap.size < R1.heap.size + 1 + 1 := by omega
  have cR1_a_0 : R1.cell? ⟨w.heap.size, 0, none⟩ = some (.int .u64 a1) := by rw [hR1]; first | assumption | (simp [go_sem, *]; done)
  have cR1_a_1 : R1.cell? ⟨w.heap.size, 1, none⟩ = some (.int .u64 a0) := by rw [hR1]; first | assumption | (simp [go_sem, *]; done)
  have zR1_b : w.heap.size + 1 < R1.heap.size := by rw [hR1]; first | omega | (simp <;> omega)
  have yR1_b : w.heap.size + 1 < R1.heap.size + 1 := by omega
  have yyR1_b : w.heap.size + 1 < R1.heap.size + 1 + 1 := by omega
  have cR1_b_0 : R1.cell? ⟨w.heap.size + 1, 0, none⟩ = some (.int .u64 b1) := by rw [hR1]; first | assumption | (simp [go_sem, *]; done)
  have cR1_b_1 : R1.cell? ⟨w.heap.size + 1, 1, none⟩ = some (.int .u64 b0) := by rw [hR1]; first | assumption | (simp [go_sem, *]; done)
  have zR1_c : w.heap.size + 1 + 1 < R1.heap.size := by rw [hR1]; first | omega | (simp <;> omega)
  have yR1_c : w.heap.size + 1 + 1 < R1.heap.size + 1 := by omega
  have yyR1_c : w.heap.size + 1 + 1 < R1.heap.size + 1 + 1 := by omega
  have cR1_c_0 : R1.cell? ⟨w.heap.size + 1 + 1, 0, none⟩ = some (.int .u64 c3) := by rw [hR1]; first | assumption | (simp [go_sem, *]; done)
  have cR1_c_1 : R1.cell? ⟨w.heap.size + 1 + 1, 1, none⟩ = some (.int .u64 c2) := by rw [hR1]; first | assumption | (simp [go_sem, *]; done)
  have cR1_c_2 : R1.cell? ⟨w.heap.size + 1 + 1, 2, none⟩ = some (.int .u64 c1) := by rw [hR1]; first | assumption | (simp [go_sem, *]; done)
  have cR1_c_3 : R1.cell? ⟨w.heap.size + 1 + 1, 3, none⟩ = some (.int .u64 c0) := by rw [hR1]; first | assumption | (simp [go_sem, *]; done)
  have zR1_q : w1.heap.size < R1.heap.size := by rw [hR1]; first | omega | (simp <;> omega)
  have yR1_q : w1.heap.size < R1.heap.size + 1 := by omega
  have yyR1_q : w1.heap.size < R1.heap.size + 1 + 1 := by omega
  have cR1_q_0 : R1.cell? ⟨w1.heap.size, 0, none⟩ = some (.int .u64 q3) := by rw [hR1]; first | assumption | (simp [go_sem, *]; done)
  have cR1_q_1 : R1.cell? ⟨w1.heap.size, 1, none⟩ = some (.int .u64 q2) := by rw [hR1]; first | assumption | (simp [go_sem, *]; done)
  have cR1_q_2 : R1.cell? ⟨w1.heap.size, 2, none⟩ = some (.int .u64 q1) := by rw [hR1]; first | assumption | (simp [go_sem, *]; done)
  have cR1_q_3 : R1.cell? ⟨w1.heap.size, 3, none⟩ = some (.int .u64 q0) := by rw [hR1]; first | assumption | (simp [go_sem, *]; done)
  have zR1_r : w1.heap.size + 1 < R1.heap.size := by rw [hR1]; first | omega | (simp <;> omega)
  have yR1_r : w1.heap.size + 1 < R1.heap.size + 1 := by omega
  have yyR1_r : w1.heap.size + 1 < R1.heap.size + 1 + 1 := by omega
  have cR1_r_0 : R1.cell? ⟨w1.heap.size + 1, 0, none⟩ = some (.int .u64 r1) := by rw [hR1]; first | assumption | (simp [go_sem, *]; done)
  have cR1_r_1 : R1.cell? ⟨w1.heap.size + 1, 1, none⟩ = some (.int .u64 r0) := by rw [hR1]; first | assumption | (simp [go_sem, *]; done)
  have zR1_x : w2.heap.size < R1.heap.size := by rw [hR1]; first | omega | (simp <;> omega)
  have yR1_x : w2.heap.size < R1.heap.size + 1 := by omega
  have yyR1_x : w2.heap.size < R1.heap.size + 1 + 1 := by omega
  have cR1_x_0 : R1.cell? ⟨w2.heap.size, 0, none⟩ = some (.int .u64 q3) := by rw [hR1]; first | assumption | (simp [go_sem, *]; done)
  have cR1_x_1 : R1.cell? ⟨w2.heap.size, 1, none⟩ = some (.int .u64 q2) := by rw [hR1]; first | assumption | (simp [go_sem, *]; done)
  have cR1_x_2 : R1.cell? ⟨w2.heap.size, 2, none⟩ = some (.int .u64 q1) := by rw [hR1]; first | assumption | (simp [go_sem, *]; done)
  have cR1_x_3 : R1.cell? ⟨w2.heap.size, 3, none⟩ = some (.int .u64 q0) := by rw [hR1]; first | assumption | (simp [go_sem, *]; done)
  have cR1_x_4 : R1.cell? ⟨w2.heap.size, 4, none⟩ = some (.int .u64 r1) := by rw [hR1]; first | assumption | (simp [go_sem, *]; done)
  have cR1_x_5 : R1.cell? ⟨w2.heap.size, 5, none⟩ = some (.int .u64 r0) := by rw [hR1]; first | assumption | (simp [go_sem, *]; done)
  have cR1_x_6 : R1.cell? ⟨w2.heap.size, 6, none⟩ = some (.bool ok) := by rw [hR1]; first | assumption | (simp [go_sem, *]; done)
  have HBR1 : Hid (Below w.heap.size w R1) := by rw [hR1]; show Below _ _ _; exact (by repeat (first | with_reducible exact Below.refl _ _ | with_reducible exact Hid.out (by assumption) | with_reducible refine Below.setCell ?_ (by first | (simp; done) | omega | (simp <;> omega)) _ | with_reducible refine bl_al ?_ _ | with_reducible apply Below.drew))
  clear hR1
  clear zw1_a yw1_a yyw1_a zw1_b yw1_b yyw1_b zw1_c yw1_c yyw1_c sxw1_0 hclw1 hfrw1 HBw1 zw2_a yw2_a yyw2_a zw2_b yw2_b yyw2_b zw2_c yw2_c yyw2_c zw2_q yw2_q yyw2_q zw2_r yw2_r yyw2_r sxw2_0 hclw2 hfrw2 HBw2
  go_region_held3 (fun w' => w'.cell? ⟨w.heap.size, 0, none⟩ = some (.int .u64 a1) ∧ w'.cell? ⟨w.heap.size, 1, none⟩ = some (.int .u64 a0) ∧ w'.cell? ⟨w.heap.size + 1, 0, none⟩ = some (.int .u64 b1) ∧ w'.cell? ⟨w.heap.size + 1, 1, none⟩ = some (.int .u64 b0) ∧ w'.cell? ⟨w1.heap.size, 0, none⟩ = some (.int .u64 q3) ∧ w'.cell? ⟨w1.heap.size, 1, none⟩ = some (.int .u64 q2) ∧ w'.cell? ⟨w1.heap.size, 2, none⟩ = some (.int .u64 q1) ∧ w'.cell? ⟨w1.heap.size, 3, none⟩ = some (.int .u64 q0) ∧ w'.cell? ⟨w1.heap.size + 1, 0, none⟩ = some (.int .u64 r1) ∧ w'.cell? ⟨w1.heap.size + 1, 1, none⟩ = some (.int .u64 r0) ∧ w'.cell? ⟨w2.heap.size, 0, none⟩ = some (.int .u64 q3) ∧ w'.cell? ⟨w2.heap.size, 1, none⟩ = some (.int .u64 q2) ∧ w'.cell? ⟨w2.heap.size, 2, none⟩ = some (.int .u64 q1) ∧ w'.cell? ⟨w2.heap.size, 3, none⟩ = some (.int .u64 q0) ∧ w'.cell? ⟨w2.heap.size, 4, none⟩ = some (.int .u64 r1) ∧ w'.cell? ⟨w2.heap.size, 5, none⟩ = some (.int .u64 r0) ∧ w'.cell? ⟨w2.heap.size, 6, none⟩ = some (.bool ok)) (first | (simp [*, go_sem]; done) | (simp [*, go_sem, World.cell?_alloc_past]; done))
    (first
      | (go_at_call 16; (with_reducible refine (K3.out _).mono ?_); rintro e w3 ⟨rfl, hb⟩; (first | (with_reducible (obtain ⟨hclw3, hfrw3⟩ := bcell_drew hb)) | (obtain ⟨hclw3, hfrw3⟩ := bcell hb)); have zw3_a : w.heap.size < w3.heap.size := (by first | omega | (have hz := hb.size; (try simp at hz); omega)); have yw3_a : w.heap.size < w3.heap.size + 1 := (by omega); have yyw3_a : w.heap.size < w3.heap.size + 1 + 1 := (by omega); have zw3_b : w.heap.size + 1 < w3.heap.size := (by first | omega | (have hz := hb.size; (try simp at hz); omega)); have yw3_b : w.heap.size + 1 < w3.heap.size + 1 := (by omega); have yyw3_b : w.heap.size + 1 < w3.heap.size + 1 + 1 := (by omega); have zw3_c : w.heap.size + 1 + 1 < w3.heap.size := (by first | omega | (have hz := hb.size; (try simp at hz); omega)); have yw3_c : w.heap.size + 1 + 1 < w3.heap.size + 1 := (by omega); have yyw3_c : w.heap.size + 1 + 1 < w3.heap.size + 1 + 1 := (by omega); have zw3_q : w1.heap.size < w3.heap.size := (by first | omega | (have hz := hb.size; (try simp at hz); omega)); have yw3_q : w1.heap.size < w3.heap.size + 1 := (by omega); have yyw3_q : w1.heap.size < w3.heap.size + 1 + 1 := (by omega); have zw3_r : w1.heap.size + 1 < w3.heap.size := (by first | omega | (have hz := hb.size; (try simp at hz); omega)); have yw3_r : w1.heap.size + 1 < w3.heap.size + 1 := (by omega); have yyw3_r : w1.heap.size + 1 < w3.heap.size + 1 + 1 := (by omega); have zw3_x : w2.heap.size < w3.heap.size := (by first | omega | (have hz := hb.size; (try simp at hz); omega)); have yw3_x : w2.heap.size < w3.heap.size + 1 := (by omega); have yyw3_x : w2.heap.size < w3.heap.size + 1 + 1 := (by omega); have sxw3_0 : R1.heap.size ≤ w3.heap.size := (by first | omega | (have hz := hb.size; (try simp at hz); omega)); have HBw3 : Hid (Below w.heap.size w w3) := (bl_trans (by repeat (first | with_reducible exact Below.refl _ _ | with_reducible exact Hid.out (by assumption) | with_reducible refine Below.setCell ?_ (by first | (simp; done) | omega | (simp <;> omega)) _ | with_reducible refine bl_al ?_ _ | with_reducible apply Below.drew)) hb); clear hb; clear K3)
      | (go_at_call 17; (with_reducible refine (K4.out _).mono ?_); rintro e w4 ⟨rfl, hb⟩; obtain ⟨hclw4, hfrw4⟩ := bcell hb; have zw4_a : w.heap.size < w4.heap.size := (by first | omega | (have hz := hb.size; (try simp at hz); omega)); have yw4_a : w.heap.size < w4.heap.size + 1 := (by omega); have yyw4_a : w.heap.size < w4.heap.size + 1 + 1 := (by omega); have zw4_b : w.heap.size + 1 < w4.heap.size := (by first | omega | (have hz := hb.size; (try simp at hz); omega)); have yw4_b : w.heap.size + 1 < w4.heap.size + 1 := (by omega); have yyw4_b : w.heap.size + 1 < w4.heap.size + 1 + 1 := (by omega); have zw4_c : w.heap.size + 1 + 1 < w4.heap.size := (by first | omega | (have hz := hb.size; (try simp at hz); omega)); have yw4_c : w.heap.size + 1 + 1 < w4.heap.size + 1 := (by omega); have yyw4_c : w.heap.size + 1 + 1 < w4.heap.size + 1 + 1 := (by omega); have zw4_q : w1.heap.size < w4.heap.size := (by first | omega | (have hz := hb.size; (try simp at hz); omega)); have yw4_q : w1.heap.size < w4.heap.size + 1 := (by omega); have yyw4_q : w1.heap.size < w4.heap.size + 1 + 1 := (by omega); have zw4_r : w1.heap.size + 1 < w4.heap.size := (by first | omega | (have hz := hb.size; (try simp at hz); omega)); have yw4_r : w1.heap.size + 1 < w4.heap.size + 1 := (by omega); have yyw4_r : w1.heap.size + 1 < w4.heap.size + 1 + 1 := (by omega); have zw4_x : w2.heap.size < w4.heap.size := (by first | omega | (have hz := hb.size; (try simp at hz); omega)); have yw4_x : w2.heap.size < w4.heap.size + 1 := (by omega); have yyw4_x : w2.heap.size < w4.heap.size + 1 + 1 := (by omega); have sxw4_0 : R1.heap.size ≤ w4.heap.size := (by first | omega | (have hz := hb.size; (try simp at hz); omega)); have sxw4_w3 : w3.heap.size ≤ w4.heap.size := (by first | omega | (have hz := hb.size; (try simp at hz); omega)); have HBw4 : Hid (Below w.heap.size w w4) := (bl_trans (by repeat (first | with_reducible exact Below.refl _ _ | with_reducible exact Hid.out (by assumption) | with_reducible refine Below.setCell ?_ (by first | (simp; done) | omega | (simp <;> omega)) _ | with_reducible refine bl_al ?_ _ | with_reducible apply Below.drew)) hb); clear hb; clear K4)
      | (go_at_call 18; (with_reducible refine (K5.out _).mono ?_); rintro e w5 ⟨rfl, hb⟩; obtain ⟨hclw5, hfrw5⟩ := bcell hb; have zw5_a : w.heap.size < w5.heap.size := (by first | omega | (have hz := hb.size; (try simp at hz); omega)); have yw5_a : w.heap.size < w5.heap.size + 1 := (by omega); have yyw5_a : w.heap.size < w5.heap.size + 1 + 1 := (by omega); have zw5_b : w.heap.size + 1 < w5.heap.size := (by first | omega | (have hz := hb.size; (try simp at hz); omega)); have yw5_b : w.heap.size + 1 < w5.heap.size + 1 := (by omega); have yyw5_b : w.heap.size + 1 < w5.heap.size + 1 + 1 := (by omega); have zw5_c : w.heap.size + 1 + 1 < w5.heap.size := (by first | omega | (have hz := hb.size; (try simp at hz); omega)); have yw5_c : w.heap.size + 1 + 1 < w5.heap.size + 1 := (by omega); have yyw5_c : w.heap.size + 1 + 1 < w5.heap.size + 1 + 1 := (by omega); have zw5_q : w1.heap.size < w5.heap.size := (by first | omega | (have hz := hb.size; (try simp at hz); omega)); have yw5_q : w1.heap.size < w5.heap.size + 1 := (by omega); have yyw5_q : w1.heap.size < w5.heap.size + 1 + 1 := (by omega); have zw5_r : w1.heap.size + 1 < w5.heap.size := (by first | omega | (have hz := hb.size; (try simp at hz); omega)); have yw5_r : w1.heap.size + 1 < w5.heap.size + 1 := (by omega); have yyw5_r : w1.heap.size + 1 < w5.heap.size + 1 + 1 := (by omega); have zw5_x : w2.heap.size < w5.heap.size := (by first | omega | (have hz := hb.size; (try simp at hz); omega)); have yw5_x : w2.heap.size < w5.heap.size + 1 := (by omega); have yyw5_x : w2.heap.size < w5.heap.size + 1 + 1 := (by omega); have sxw5_0 : R1.heap.size ≤ w5.heap.size := (by first | omega | (have hz := hb.size; (try simp at hz); omega)); have sxw5_w3 : w3.heap.size ≤ w5.heap.size := (by first | omega | (have hz := hb.size; (try simp at hz); omega)); have sxw5_w4 : w4.heap.size ≤ w5.heap.size := (by first | omega | (have hz := hb.size; (try simp at hz); omega)); have HBw5 : Hid (Below w.heap.size w w5) := (bl_trans (by repeat (first | with_reducible exact Below.refl _ _ | with_reducible exact Hid.out (by assumption) | with_reducible refine Below.setCell ?_ (by first | (simp; done) | omega | (simp <;> omega)) _ | with_reducible refine bl_al ?_ _ | with_reducible apply Below.drew)) hb); clear hb; clear K5))
  rename_i hHeld
  clear hHeld
  go_wp2_with fail
  go_returns
  exact ⟨rfl, by repeat (first | with_reducible exact Below.refl _ _ | with_reducible exact Hid.out (by assumption) | with_reducible refine Below.setCell ?_ (by first | (simp; done) | omega | (simp <;> omega)) _ | with_reducible refine bl_al ?_ _ | with_reducible apply Below.drew)⟩
theorem limbMuls_walk (a1 a0 b1 b0 c3 c2 c1 c0 : Int) (ha1 : Wd a1) (ha0 : Wd a0) (hb1 : Wd b1) (hb0 : Wd b0) (hc3 : Wd c3) (hc2 : Wd c2) (hc1 : Wd c1) (hc0 : Wd c0) (w : World) :
    Calls Try.prog 3 #[.agg #[.int .u64 a1, .int .u64 a0], .agg #[.int .u64 b1, .int .u64 b0], .agg #[.int .u64 c3, .int .u64 c2, .int .u64 c1, .int .u64 c0]] w fun e w' => e = .returned (.bool true) ∧ Below w.heap.size w w' := by
  have C3 := mul_any a1 a0 b1 b0 ha1 ha0 hb1 hb0
  have C4 := mulTwo_any a1 a0 b1 b0 ha1 ha0 hb1 hb0
  by_cases hz : v2 b1 b0 = 0
  · have e1 : b1 = 0 := by obtain ⟨_, _⟩ := hb1; unfold v2 at hz; omega
    have e0 : b0 = 0 := by obtain ⟨_, _⟩ := hb0; unfold v2 at hz; omega
    subst e1; subst e0
    exact limbMuls_core _ _ _ _ _ _ _ _ _ _ _ _ _ _ _ _ _ _ _ w (div_zero c3 c2 c1 c0) (rdiv_none c3 c2 c1 c0) C3 C4 awake_true
  · exact limbMuls_core _ _ _ _ _ _ _ _ _ _ _ _ _ _ _ _ _ _ _ w (div_any c3 c2 c1 c0 b1 b0 hc3 hc2 hc1 hc0 hb1 hb0 hz) (rdiv_any c3 c2 c1 c0 b1 b0 hc3 hc2 hc1 hc0 hb1 hb0 hz) C3 C4 awake_true

set_option maxRecDepth 100000 in
theorem limbMuls_lifted (os : Os) (started : os.Started) (H : Type) (enc : TypeId × Value → H) :
    ReturnsInHanded {} Try.checked os 3 .any (Rows.limbMulsSpec.pre6 enc Try.prog Try.f3 Rows.limbMulsRow.domain false) (Rows.limbMulsSpec.post enc Try.prog Try.f3 false true false false) := by
  refine returnsInHanded_of_change (C := Try.checked) Try.own started (by kernel_rfl) Try.func3
    (ChangeSpec.witness6 (enc := enc) (C := Try.checked) false ⟨#[], #[.agg #[.int .u64 0, .int .u64 0], .agg #[.int .u64 0, .int .u64 0], .agg #[.int .u64 0, .int .u64 0, .int .u64 0, .int .u64 0]], []⟩ 8 (by kernel_rfl) (by kernel_rfl) (by kernel_rfl) (by kernel_rfl)) ?_
  intro W base args ds gs before hval0 hW hcnd _
  have hval : ∀ (j : Nat) t v, Try.f3.params[j]? = some t → args[j]? = some v → Value.okWide Try.prog W .any base t v := hval0
  have hW' := hW
  obtain ⟨p, q, hA0, hV, rfl, hfz, hnd⟩ := hW
  have hA : DataW.TrodAll enc Try.prog W 0 (fun _ => true) true Try.f3.params.toList args.toList ds p := hA0
  rw [Try.params3] at hA hval
  obtain ⟨v0, v1, v2, d0, d1, d2, p0, p1, p2, rfl, rfl, rfl, h0, h1, h2⟩ := trodAll_three hA
  obtain ⟨rfl, rfl⟩ := trodVars_none hV
  obtain ⟨a1, a0, rfl, rfl, rfl, k00, k01⟩ := open_two (hval 0 24 v0 rfl rfl) h0
  obtain ⟨b1, b0, rfl, rfl, rfl, k10, k11⟩ := open_two (hval 1 24 v1 rfl rfl) h1
  obtain ⟨c3, c2, c1, c0, rfl, rfl, rfl, k20, k21, k22, k23⟩ := open_four (hval 2 26 v2 rfl rfl) h2
  clear hA0 hval0
  simp only [List.append_nil] at hW'
  refine (limbMuls_walk a1 a0 b1 b0 c3 c2 c1 c0 k00 k01 k10 k11 k20 k21 k22 k23 W).mono fun e W' ⟨he, hb⟩ => ?_
  subst he
  exact ⟨_, rfl, _, _, _, [], [], [], hW', trodAll_mk1 (shut_bool Try.underlying4 _), trodAll_mk3 (shut_two k00 k01) (shut_two k10 k11) (shut_four k20 k21 k22 k23), rfl, hb.frame _, fun h => by cases h⟩

theorem limbMuls_holds : Rows.LimbMulsSaid :=
  OpenClaim.holds_of_wide 3 Try.f3 rfl rfl rfl rfl rfl rfl rfl ⟨rfl, rfl, rfl, rfl, rfl⟩ rfl rfl rfl rfl rfl (by kernel_rfl) Try.func3 (by kernel_rfl)
    (of_decide_eq_true (by kernel_rfl)) (by unfold Func.isWrapper; first | (rw [if_pos (by decide +kernel)]; kernel_rfl) | (rw [if_neg (by decide +kernel)]; exact ⟨rfl, rfl⟩))
    (fun os started H enc _ => limbMuls_lifted os started H enc)
end Go.Proofs.Ytgcblfaommhpbaa
