/- FixOrder: of two numbers just one is below, alike, or above; turned about it is the other way. For any three numbers, without conditions. -/
import Derived.Test.YtjiipbmnagpejaaFixAwake
namespace Go.Proofs.Ytjiipbmnagpejaa
open Go.ChangeShapes Go.WideShapes Go.ChangeAt Go.RowKit Go.Joins

set_option maxRecDepth 20000 in
set_option maxHeartbeats 4000000 in
theorem fixOrder_out0 (a1 a0 b1 b0 c1 c0 : Int)  (w : World)
    (C1 : ∀ W, Calls Try.prog 14 #[.agg #[.int .i64 a1, .int .u64 a0]] W fun e w' => e = .returned (.bool false) ∧ Below W.heap.size W w')
    (C2 : ∀ W, Calls Try.prog 17 #[] W fun e w' => e = .returned (.bool true) ∧ Below W.heap.size W w') :
    Calls Try.prog 10 #[.agg #[.int .i64 a1, .int .u64 a0], .agg #[.int .i64 b1, .int .u64 b0], .agg #[.int .i64 c1, .int .u64 c0]] w fun e w' => e = .returned (.bool true) ∧ Below w.heap.size w w' := by
  have K1 := Lib.hid C1; have K2 := Lib.hid C2
  clear C1 C2
  go_enter Try.func10, Try.ntmps10
  go_wp2_with fail
  (with_reducible refine (K1.out _).mono ?_); rintro e w1 ⟨rfl, hb⟩; obtain ⟨hclw1, hfrw1⟩ := bcell hb; have zw1_a : w.heap.size < w1.heap.size := (by first | omega | (have hz := hb.size; (try simp at hz); omega)); have yw1_a : w.heap.size < w1.heap.size + 1 := (by omega); have yyw1_a : w.heap.size < w1.heap.size + 1 + 1 := (by omega); have zw1_b : w.heap.size + 1 < w1.heap.size := (by first | omega | (have hz := hb.size; (try simp at hz); omega)); have yw1_b : w.heap.size + 1 < w1.heap.size + 1 := (by omega); have yyw1_b : w.heap.size + 1 < w1.heap.size + 1 + 1 := (by omega); have zw1_c : w.heap.size + 1 + 1 < w1.heap.size := (by first | omega | (have hz := hb.size; (try simp at hz); omega)); have yw1_c : w.heap.size + 1 + 1 < w1.heap.size + 1 := (by omega); have yyw1_c : w.heap.size + 1 + 1 < w1.heap.size + 1 + 1 := (by omega); (try have sw1_0 : w.heap.size + 1 + 1 + 1 < w1.heap.size := (by first | omega | (have hz := hb.size; (try simp at hz); omega))); (try have syw1_0 : w.heap.size + 1 + 1 + 1 < w1.heap.size + 1 := (by omega)); (try have stw1_0 : w.heap.size + 1 + 1 + 1 + 1 < w1.heap.size := (by first | omega | (have hz := hb.size; (try simp at hz); omega))); have sxw1_0 : w.heap.size + 1 + 1 + 1 ≤ w1.heap.size := (by first | omega | (have hz := hb.size; (try simp at hz); omega)); have HBw1 : Hid (Below w.heap.size w w1) := (bl_trans (by repeat (first | with_reducible exact Below.refl _ _ | with_reducible exact Hid.out (by assumption) | with_reducible refine Below.setCell ?_ (by first | (simp; done) | omega | (simp <;> omega)) _ | with_reducible refine bl_al ?_ _ | with_reducible apply Below.drew)) hb); clear hb
  go_wp2_with fail
  (with_reducible refine (K2.out _).mono ?_); rintro e w2 ⟨rfl, hb⟩; obtain ⟨hclw2, hfrw2⟩ := bcell hb; have zw2_a : w.heap.size < w2.heap.size := (by first | omega | (have hz := hb.size; (try simp at hz); omega)); have yw2_a : w.heap.size < w2.heap.size + 1 := (by omega); have yyw2_a : w.heap.size < w2.heap.size + 1 + 1 := (by omega); have zw2_b : w.heap.size + 1 < w2.heap.size := (by first | omega | (have hz := hb.size; (try simp at hz); omega)); have yw2_b : w.heap.size + 1 < w2.heap.size + 1 := (by omega); have yyw2_b : w.heap.size + 1 < w2.heap.size + 1 + 1 := (by omega); have zw2_c : w.heap.size + 1 + 1 < w2.heap.size := (by first | omega | (have hz := hb.size; (try simp at hz); omega)); have yw2_c : w.heap.size + 1 + 1 < w2.heap.size + 1 := (by omega); have yyw2_c : w.heap.size + 1 + 1 < w2.heap.size + 1 + 1 := (by omega); (try have sw2_0 : w1.heap.size < w2.heap.size := (by first | omega | (have hz := hb.size; (try simp at hz); omega))); (try have syw2_0 : w1.heap.size < w2.heap.size + 1 := (by omega)); (try have stw2_0 : w1.heap.size + 1 < w2.heap.size := (by first | omega | (have hz := hb.size; (try simp at hz); omega))); have sxw2_0 : w1.heap.size ≤ w2.heap.size := (by first | omega | (have hz := hb.size; (try simp at hz); omega)); have HBw2 : Hid (Below w.heap.size w w2) := (bl_trans (by repeat (first | with_reducible exact Below.refl _ _ | with_reducible exact Hid.out (by assumption) | with_reducible refine Below.setCell ?_ (by first | (simp; done) | omega | (simp <;> omega)) _ | with_reducible refine bl_al ?_ _ | with_reducible apply Below.drew)) hb); clear hb
  go_wp2_with fail
  go_returns
  exact ⟨rfl, by repeat (first | with_reducible exact Below.refl _ _ | with_reducible exact Hid.out (by assumption) | with_reducible refine Below.setCell ?_ (by first | (simp; done) | omega | (simp <;> omega)) _ | with_reducible refine bl_al ?_ _ | with_reducible apply Below.drew)⟩
set_option maxRecDepth 20000 in
set_option maxHeartbeats 4000000 in
theorem fixOrder_out1 (a1 a0 b1 b0 c1 c0 : Int)  (w : World)
    (C1 : ∀ W, Calls Try.prog 14 #[.agg #[.int .i64 a1, .int .u64 a0]] W fun e w' => e = .returned (.bool true) ∧ Below W.heap.size W w')
    (C2 : ∀ W, Calls Try.prog 14 #[.agg #[.int .i64 b1, .int .u64 b0]] W fun e w' => e = .returned (.bool false) ∧ Below W.heap.size W w')
    (C3 : ∀ W, Calls Try.prog 17 #[] W fun e w' => e = .returned (.bool true) ∧ Below W.heap.size W w') :
    Calls Try.prog 10 #[.agg #[.int .i64 a1, .int .u64 a0], .agg #[.int .i64 b1, .int .u64 b0], .agg #[.int .i64 c1, .int .u64 c0]] w fun e w' => e = .returned (.bool true) ∧ Below w.heap.size w w' := by
  have K1 := Lib.hid C1; have K2 := Lib.hid C2; have K3 := Lib.hid C3
  clear C1 C2 C3
  go_enter Try.func10, Try.ntmps10
  go_wp2_with fail
  (with_reducible refine (K1.out _).mono ?_); rintro e w1 ⟨rfl, hb⟩; obtain ⟨hclw1, hfrw1⟩ := bcell hb; have zw1_a : w.heap.size < w1.heap.size := (by first | omega | (have hz := hb.size; (try simp at hz); omega)); have yw1_a : w.heap.size < w1.heap.size + 1 := (by omega); have yyw1_a : w.heap.size < w1.heap.size + 1 + 1 := (by omega); have zw1_b : w.heap.size + 1 < w1.heap.size := (by first | omega | (have hz := hb.size; (try simp at hz); omega)); have yw1_b : w.heap.size + 1 < w1.heap.size + 1 := (by omega); have yyw1_b : w.heap.size + 1 < w1.heap.size + 1 + 1 := (by omega); have zw1_c : w.heap.size + 1 + 1 < w1.heap.size := (by first | omega | (have hz := hb.size; (try simp at hz); omega)); have yw1_c : w.heap.size + 1 + 1 < w1.heap.size + 1 := (by omega); have yyw1_c : w.heap.size + 1 + 1 < w1.heap.size + 1 + 1 := (by omega); (try have sw1_0 : w.heap.size + 1 + 1 + 1 < w1.heap.size := (by first | omega | (have hz := hb.size; (try simp at hz); omega))); (try have syw1_0 : w.heap.size + 1 + 1 + 1 < w1.heap.size + 1 := (by omega)); (try have stw1_0 : w.heap.size + 1 + 1 + 1 + 1 < w1.heap.size := (by first | omega | (have hz := hb.size; (try simp at hz); omega))); have sxw1_0 : w.heap.size + 1 + 1 + 1 ≤ w1.heap.size := (by first | omega | (have hz := hb.size; (try simp at hz); omega)); have HBw1 : Hid (Below w.heap.size w w1) := (bl_trans (by repeat (first | with_reducible exact Below.refl _ _ | with_reducible exact Hid.out (by assumption) | with_reducible refine Below.setCell ?_ (by first | (simp; done) | omega | (simp <;> omega)) _ | with_reducible refine bl_al ?_ _ | with_reducible apply Below.drew)) hb); clear hb
  go_wp2_with fail
  (with_reducible refine (K2.out _).mono ?_); rintro e w2 ⟨rfl, hb⟩; obtain ⟨hclw2, hfrw2⟩ := bcell hb; have zw2_a : w.heap.size < w2.heap.size := (by first | omega | (have hz := hb.size; (try simp at hz); omega)); have yw2_a : w.heap.size < w2.heap.size + 1 := (by omega); have yyw2_a : w.heap.size < w2.heap.size + 1 + 1 := (by omega); have zw2_b : w.heap.size + 1 < w2.heap.size := (by first | omega | (have hz := hb.size; (try simp at hz); omega)); have yw2_b : w.heap.size + 1 < w2.heap.size + 1 := (by omega); have yyw2_b : w.heap.size + 1 < w2.heap.size + 1 + 1 := (by omega); have zw2_c : w.heap.size + 1 + 1 < w2.heap.size := (by first | omega | (have hz := hb.size; (try simp at hz); omega)); have yw2_c : w.heap.size + 1 + 1 < w2.heap.size + 1 := (by omega); have yyw2_c : w.heap.size + 1 + 1 < w2.heap.size + 1 + 1 := (by omega); (try have sw2_0 : w1.heap.size < w2.heap.size := (by first | omega | (have hz := hb.size; (try simp at hz); omega))); (try have syw2_0 : w1.heap.size < w2.heap.size + 1 := (by omega)); (try have stw2_0 : w1.heap.size + 1 < w2.heap.size := (by first | omega | (have hz := hb.size; (try simp at hz); omega))); have sxw2_0 : w1.heap.size ≤ w2.heap.size := (by first | omega | (have hz := hb.size; (try simp at hz); omega)); have HBw2 : Hid (Below w.heap.size w w2) := (bl_trans (by repeat (first | with_reducible exact Below.refl _ _ | with_reducible exact Hid.out (by assumption) | with_reducible refine Below.setCell ?_ (by first | (simp; done) | omega | (simp <;> omega)) _ | with_reducible refine bl_al ?_ _ | with_reducible apply Below.drew)) hb); clear hb
  go_wp2_with fail
  (with_reducible refine (K3.out _).mono ?_); rintro e w3 ⟨rfl, hb⟩; obtain ⟨hclw3, hfrw3⟩ := bcell hb; have zw3_a : w.heap.size < w3.heap.size := (by first | omega | (have hz := hb.size; (try simp at hz); omega)); have yw3_a : w.heap.size < w3.heap.size + 1 := (by omega); have yyw3_a : w.heap.size < w3.heap.size + 1 + 1 := (by omega); have zw3_b : w.heap.size + 1 < w3.heap.size := (by first | omega | (have hz := hb.size; (try simp at hz); omega)); have yw3_b : w.heap.size + 1 < w3.heap.size + 1 := (by omega); have yyw3_b : w.heap.size + 1 < w3.heap.size + 1 + 1 := (by omega); have zw3_c : w.heap.size + 1 + 1 < w3.heap.size := (by first | omega | (have hz := hb.size; (try simp at hz); omega)); have yw3_c : w.heap.size + 1 + 1 < w3.heap.size + 1 := (by omega); have yyw3_c : w.heap.size + 1 + 1 < w3.heap.size + 1 + 1 := (by omega); (try have sw3_0 : w2.heap.size < w3.heap.size := (by first | omega | (have hz := hb.size; (try simp at hz); omega))); (try have syw3_0 : w2.heap.size < w3.heap.size + 1 := (by omega)); (try have stw3_0 : w2.heap.size + 1 < w3.heap.size := (by first | omega | (have hz := hb.size; (try simp at hz); omega))); have sxw3_0 : w2.heap.size ≤ w3.heap.size := (by first | omega | (have hz := hb.size; (try simp at hz); omega)); have HBw3 : Hid (Below w.heap.size w w3) := (bl_trans (by repeat (first | with_reducible exact Below.refl _ _ | with_reducible exact Hid.out (by assumption) | with_reducible refine Below.setCell ?_ (by first | (simp; done) | omega | (simp <;> omega)) _ | with_reducible refine bl_al ?_ _ | with_reducible apply Below.drew)) hb); clear hb
  go_wp2_with fail
  go_returns
  exact ⟨rfl, by repeat (first | with_reducible exact Below.refl _ _ | with_reducible exact Hid.out (by assumption) | with_reducible refine Below.setCell ?_ (by first | (simp; done) | omega | (simp <;> omega)) _ | with_reducible refine bl_al ?_ _ | with_reducible apply Below.drew)⟩
set_option maxRecDepth 20000 in
set_option maxHeartbeats 4000000 in
theorem fixOrder_out2 (a1 a0 b1 b0 c1 c0 : Int)  (w : World)
    (C1 : ∀ W, Calls Try.prog 14 #[.agg #[.int .i64 a1, .int .u64 a0]] W fun e w' => e = .returned (.bool true) ∧ Below W.heap.size W w')
    (C2 : ∀ W, Calls Try.prog 14 #[.agg #[.int .i64 b1, .int .u64 b0]] W fun e w' => e = .returned (.bool true) ∧ Below W.heap.size W w')
    (C3 : ∀ W, Calls Try.prog 14 #[.agg #[.int .i64 c1, .int .u64 c0]] W fun e w' => e = .returned (.bool false) ∧ Below W.heap.size W w')
    (C4 : ∀ W, Calls Try.prog 17 #[] W fun e w' => e = .returned (.bool true) ∧ Below W.heap.size W w') :
    Calls Try.prog 10 #[.agg #[.int .i64 a1, .int .u64 a0], .agg #[.int .i64 b1, .int .u64 b0], .agg #[.int .i64 c1, .int .u64 c0]] w fun e w' => e = .returned (.bool true) ∧ Below w.heap.size w w' := by
  have K1 := Lib.hid C1; have K2 := Lib.hid C2; have K3 := Lib.hid C3; have K4 := Lib.hid C4
  clear C1 C2 C3 C4
  go_enter Try.func10, Try.ntmps10
  go_wp2_with fail
  (with_reducible refine (K1.out _).mono ?_); rintro e w1 ⟨rfl, hb⟩; obtain ⟨hclw1, hfrw1⟩ := bcell hb; have zw1_a : w.heap.size < w1.heap.size := (by first | omega | (have hz := hb.size; (try simp at hz); omega)); have yw1_a : w.heap.size < w1.heap.size + 1 := (by omega); have yyw1_a : w.heap.size < w1.heap.size + 1 + 1 := (by omega); have zw1_b : w.heap.size + 1 < w1.heap.size := (by first | omega | (have hz := hb.size; (try simp at hz); omega)); have yw1_b : w.heap.size + 1 < w1.heap.size + 1 := (by omega); have yyw1_b : w.heap.size + 1 < w1.heap.size + 1 + 1 := (by omega); have zw1_c : w.heap.size + 1 + 1 < w1.heap.size := (by first | omega | (have hz := hb.size; (try simp at hz); omega)); have yw1_c : w.heap.size + 1 + 1 < w1.heap.size + 1 := (by omega); have yyw1_c : w.heap.size + 1 + 1 < w1.heap.size + 1 + 1 := (by omega); (try have sw1_0 : w.heap.size + 1 + 1 + 1 < w1.heap.size := (by first | omega | (have hz := hb.size; (try simp at hz); omega))); (try have syw1_0 : w.heap.size + 1 + 1 + 1 < w1.heap.size + 1 := (by omega)); (try have stw1_0 : w.heap.size + 1 + 1 + 1 + 1 < w1.heap.size := (by first | omega | (have hz := hb.size; (try simp at hz); omega))); have sxw1_0 : w.heap.size + 1 + 1 + 1 ≤ w1.heap.size := (by first | omega | (have hz := hb.size; (try simp at hz); omega)); have HBw1 : Hid (Below w.heap.size w w1) := (bl_trans (by repeat (first | with_reducible exact Below.refl _ _ | with_reducible exact Hid.out (by assumption) | with_reducible refine Below.setCell ?_ (by first | (simp; done) | omega | (simp <;> omega)) _ | with_reducible refine bl_al ?_ _ | with_reducible apply Below.drew)) hb); clear hb
  go_wp2_with fail
  (with_reducible refine (K2.out _).mono ?_); rintro e w2 ⟨rfl, hb⟩; obtain ⟨hclw2, hfrw2⟩ := bcell hb; have zw2_a : w.heap.size < w2.heap.size := (by first | omega | (have hz := hb.size; (try simp at hz); omega)); have yw2_a : w.heap.size < w2.heap.size + 1 := (by omega); have yyw2_a : w.heap.size < w2.heap.size + 1 + 1 := (by omega); have zw2_b : w.heap.size + 1 < w2.heap.size := (by first | omega | (have hz := hb.size; (try simp at hz); omega)); have yw2_b : w.heap.size + 1 < w2.heap.size + 1 := (by omega); have yyw2_b : w.heap.size + 1 < w2.heap.size + 1 + 1 := (by omega); have zw2_c : w.heap.size + 1 + 1 < w2.heap.size := (by first | omega | (have hz := hb.size; (try simp at hz); omega)); have yw2_c : w.heap.size + 1 + 1 < w2.heap.size + 1 := (by omega); have yyw2_c : w.heap.size + 1 + 1 < w2.heap.size + 1 + 1 := (by omega); (try have sw2_0 : w1.heap.size < w2.heap.size := (by first | omega | (have hz := hb.size; (try simp at hz); omega))); (try have syw2_0 : w1.heap.size < w2.heap.size + 1 := (by omega)); (try have stw2_0 : w1.heap.size + 1 < w2.heap.size := (by first | omega | (have hz := hb.size; (try simp at hz); omega))); have sxw2_0 : w1.heap.size ≤ w2.heap.size := (by first | omega | (have hz := hb.size; (try simp at hz); omega)); have HBw2 : Hid (Below w.heap.size w w2) := (bl_trans (by repeat (first | with_reducible exact Below.refl _ _ | with_reducible exact Hid.out (by assumption) | with_reducible refine Below.setCell ?_ (by first | (simp; done) | omega | (simp <;> omega)) _ | with_reducible refine bl_al ?_ _ | with_reducible apply Below.drew)) hb); clear hb
  go_wp2_with fail
  (with_reducible refine (K3.out _).mono ?_); rintro e w3 ⟨rfl, hb⟩; obtain ⟨hclw3, hfrw3⟩ := bcell hb; have zw3_a : w.heap.size < w3.heap.size := (by first | omega | (have hz := hb.size; (try simp at hz); omega)); have yw3_a : w.heap.size < w3.heap.size + 1 := (by omega); have yyw3_a : w.heap.size < w3.heap.size + 1 + 1 := (by omega); have zw3_b : w.heap.size + 1 < w3.heap.size := (by first | omega | (have hz := hb.size; (try simp at hz); omega)); have yw3_b : w.heap.size + 1 < w3.heap.size + 1 := (by omega); have yyw3_b : w.heap.size + 1 < w3.heap.size + 1 + 1 := (by omega); have zw3_c : w.heap.size + 1 + 1 < w3.heap.size := (by first | omega | (have hz := hb.size; (try simp at hz); omega)); have yw3_c : w.heap.size + 1 + 1 < w3.heap.size + 1 := (by omega); have yyw3_c : w.heap.size + 1 + 1 < w3.heap.size + 1 + 1 := (by omega); (try have sw3_0 : w2.heap.size < w3.heap.size := (by first | omega | (have hz := hb.size; (try simp at hz); omega))); (try have syw3_0 : w2.heap.size < w3.heap.size + 1 := (by omega)); (try have stw3_0 : w2.heap.size + 1 < w3.heap.size := (by first | omega | (have hz := hb.size; (try simp at hz); omega))); have sxw3_0 : w2.heap.size ≤ w3.heap.size := (by first | omega | (have hz := hb.size; (try simp at hz); omega)); have HBw3 : Hid (Below w.heap.size w w3) := (bl_trans (by repeat (first | with_reducible exact Below.refl _ _ | with_reducible exact Hid.out (by assumption) | with_reducible refine Below.setCell ?_ (by first | (simp; done) | omega | (simp <;> omega)) _ | with_reducible refine bl_al ?_ _ | with_reducible apply Below.drew)) hb); clear hb
  go_wp2_with fail
  (with_reducible refine (K4.out _).mono ?_); rintro e w4 ⟨rfl, hb⟩; obtain ⟨hclw4, hfrw4⟩ := bcell hb; have zw4_a : w.heap.size < w4.heap.size := (by first | omega | (have hz := hb.size; (try simp at hz); omega)); have yw4_a : w.heap.size < w4.heap.size + 1 := (by omega); have yyw4_a : w.heap.size < w4.heap.size + 1 + 1 := (by omega); have zw4_b : w.heap.size + 1 < w4.heap.size := (by first | omega | (have hz := hb.size; (try simp at hz); omega)); have yw4_b : w.heap.size + 1 < w4.heap.size + 1 := (by omega); have yyw4_b : w.heap.size + 1 < w4.heap.size + 1 + 1 := (by omega); have zw4_c : w.heap.size + 1 + 1 < w4.heap.size := (by first | omega | (have hz := hb.size; (try simp at hz); omega)); have yw4_c : w.heap.size + 1 + 1 < w4.heap.size + 1 := (by omega); have yyw4_c : w.heap.size + 1 + 1 < w4.heap.size + 1 + 1 := (by omega); (try have sw4_0 : w3.heap.size < w4.heap.size := (by first | omega | (have hz := hb.size; (try simp at hz); omega))); (try have syw4_0 : w3.heap.size < w4.heap.size + 1 := (by omega)); (try have stw4_0 : w3.heap.size + 1 < w4.heap.size := (by first | omega | (have hz := hb.size; (try simp at hz); omega))); have sxw4_0 : w3.heap.size ≤ w4.heap.size := (by first | omega | (have hz := hb.size; (try simp at hz); omega)); have HBw4 : Hid (Below w.heap.size w w4) := (bl_trans (by repeat (first | with_reducible exact Below.refl _ _ | with_reducible exact Hid.out (by assumption) | with_reducible refine Below.setCell ?_ (by first | (simp; done) | omega | (simp <;> omega)) _ | with_reducible refine bl_al ?_ _ | with_reducible apply Below.drew)) hb); clear hb
  go_wp2_with fail
  go_returns
  exact ⟨rfl, by repeat (first | with_reducible exact Below.refl _ _ | with_reducible exact Hid.out (by assumption) | with_reducible refine Below.setCell ?_ (by first | (simp; done) | omega | (simp <;> omega)) _ | with_reducible refine bl_al ?_ _ | with_reducible apply Below.drew)⟩
set_option maxRecDepth 20000 in
set_option maxHeartbeats 4000000 in
theorem fixOrder_x (a1 a0 b1 b0 c1 c0 x y u v m1 m0 n1 n0 : Int) (d : Bool) (hy : IntKind.i64.wrap (-y) = x) (q : ∀ W, (Go.binOp .eql 24 (.agg #[.int .i64 a1, .int .u64 a0]) (.agg #[.int .i64 b1, .int .u64 b0])).run Try.prog W = .ok (.bool d) W) (hd : (x == 0) = d) (hx : 0 < x) (w : World)
    (C1 : ∀ W, Calls Try.prog 14 #[.agg #[.int .i64 a1, .int .u64 a0]] W fun e w' => e = .returned (.bool true) ∧ Below W.heap.size W w')
    (C2 : ∀ W, Calls Try.prog 14 #[.agg #[.int .i64 b1, .int .u64 b0]] W fun e w' => e = .returned (.bool true) ∧ Below W.heap.size W w')
    (C3 : ∀ W, Calls Try.prog 14 #[.agg #[.int .i64 c1, .int .u64 c0]] W fun e w' => e = .returned (.bool true) ∧ Below W.heap.size W w')
    (C4 : ∀ W, Calls Try.prog 15 #[.agg #[.int .i64 a1, .int .u64 a0], .agg #[.int .i64 b1, .int .u64 b0]] W fun e w' => e = .returned (.int .i64 x) ∧ Below W.heap.size W w')
    (C5 : ∀ W, Calls Try.prog 15 #[.agg #[.int .i64 b1, .int .u64 b0], .agg #[.int .i64 a1, .int .u64 a0]] W fun e w' => e = .returned (.int .i64 y) ∧ Below W.heap.size W w')
    (C6 : ∀ W, Calls Try.prog 15 #[.agg #[.int .i64 b1, .int .u64 b0], .agg #[.int .i64 c1, .int .u64 c0]] W fun e w' => e = .returned (.int .i64 u) ∧ Below W.heap.size W w')
    (C7 : ∀ W, Calls Try.prog 15 #[.agg #[.int .i64 a1, .int .u64 a0], .agg #[.int .i64 c1, .int .u64 c0]] W fun e w' => e = .returned (.int .i64 v) ∧ Below W.heap.size W w')
    (C8 : ∀ W, Calls Try.prog 30 #[.agg #[.int .i64 a1, .int .u64 a0]] W fun e w' => e = .returned (.agg #[.int .i64 m1, .int .u64 m0]) ∧ Below W.heap.size W w')
    (C9 : ∀ W, Calls Try.prog 30 #[.agg #[.int .i64 b1, .int .u64 b0]] W fun e w' => e = .returned (.agg #[.int .i64 n1, .int .u64 n0]) ∧ Below W.heap.size W w')
    (C10 : ∀ W, Calls Try.prog 15 #[.agg #[.int .i64 m1, .int .u64 m0], .agg #[.int .i64 n1, .int .u64 n0]] W fun e w' => e = .returned (.int .i64 y) ∧ Below W.heap.size W w')
    (C11 : ∀ W, Calls Try.prog 17 #[] W fun e w' => e = .returned (.bool true) ∧ Below W.heap.size W w') :
    Calls Try.prog 10 #[.agg #[.int .i64 a1, .int .u64 a0], .agg #[.int .i64 b1, .int .u64 b0], .agg #[.int .i64 c1, .int .u64 c0]] w fun e w' => e = .returned (.bool true) ∧ Below w.heap.size w w' := by
  have K1 := Lib.hid C1; have K2 := Lib.hid C2; have K3 := Lib.hid C3; have K4 := Lib.hid C4; have K5 := Lib.hid C5; have K6 := Lib.hid C6; have K7 := Lib.hid C7; have K8 := Lib.hid C8; have K9 := Lib.hid C9; have K10 := Lib.hid C10; have K11 := Lib.hid C11
  clear C1 C2 C3 C4 C5 C6 C7 C8 C9 C10 C11
  have dx : decide (x > 0) = true := by simp; omega
  clear hx
  go_enter Try.func10, Try.ntmps10
  go_wp2_with fail
  (with_reducible refine (K1.out _).mono ?_); rintro e w1 ⟨rfl, hb⟩; obtain ⟨hclw1, hfrw1⟩ := bcell hb; have zw1_a : w.heap.size < w1.heap.size := (by first | omega | (have hz := hb.size; (try simp at hz); omega)); have yw1_a : w.heap.size < w1.heap.size + 1 := (by omega); have yyw1_a : w.heap.size < w1.heap.size + 1 + 1 := (by omega); have zw1_b : w.heap.size + 1 < w1.heap.size := (by first | omega | (have hz := hb.size; (try simp at hz); omega)); have yw1_b : w.heap.size + 1 < w1.heap.size + 1 := (by omega); have yyw1_b : w.heap.size + 1 < w1.heap.size + 1 + 1 := (by omega); have zw1_c : w.heap.size + 1 + 1 < w1.heap.size := (by first | omega | (have hz := hb.size; (try simp at hz); omega)); have yw1_c : w.heap.size + 1 + 1 < w1.heap.size + 1 := (by omega); have yyw1_c : w.heap.size + 1 + 1 < w1.heap.size + 1 + 1 := (by omega); (try have sw1_0 : w.heap.size + 1 + 1 + 1 < w1.heap.size := (by first | omega | (have hz := hb.size; (try simp at hz); omega))); (try have syw1_0 : w.heap.size + 1 + 1 + 1 < w1.heap.size + 1 := (by omega)); (try have stw1_0 : w.heap.size + 1 + 1 + 1 + 1 < w1.heap.size := (by first | omega | (have hz := hb.size; (try simp at hz); omega))); have sxw1_0 : w.heap.size + 1 + 1 + 1 ≤ w1.heap.size := (by first | omega | (have hz := hb.size; (try simp at hz); omega)); have HBw1 : Hid (Below w.heap.size w w1) := (bl_trans (by repeat (first | with_reducible exact Below.refl _ _ | with_reducible exact Hid.out (by assumption) | with_reducible refine Below.setCell ?_ (by first | (simp; done) | omega | (simp <;> omega)) _ | with_reducible refine bl_al ?_ _ | with_reducible apply Below.drew)) hb); clear hb
  go_wp2_with fail
  (with_reducible refine (K2.out _).mono ?_); rintro e w2 ⟨rfl, hb⟩; obtain ⟨hclw2, hfrw2⟩ := bcell hb; have zw2_a : w.heap.size < w2.heap.size := (by first | omega | (have hz := hb.size; (try simp at hz); omega)); have yw2_a : w.heap.size < w2.heap.size + 1 := (by omega); have yyw2_a : w.heap.size < w2.heap.size + 1 + 1 := (by omega); have zw2_b : w.heap.size + 1 < w2.heap.size := (by first | omega | (have hz := hb.size; (try simp at hz); omega)); have yw2_b : w.heap.size + 1 < w2.heap.size + 1 := (by omega); have yyw2_b : w.heap.size + 1 < w2.heap.size + 1 + 1 := (by omega); have zw2_c : w.heap.size + 1 + 1 < w2.heap.size := (by first | omega | (have hz := hb.size; (try simp at hz); omega)); have yw2_c : w.heap.size + 1 + 1 < w2.heap.size + 1 := (by omega); have yyw2_c : w.heap.size + 1 + 1 < w2.heap.size + 1 + 1 := (by omega); (try have sw2_0 : w1.heap.size < w2.heap.size := (by first | omega | (have hz := hb.size; (try simp at hz); omega))); (try have syw2_0 : w1.heap.size < w2.heap.size + 1 := (by omega)); (try have stw2_0 : w1.heap.size + 1 < w2.heap.size := (by first | omega | (have hz := hb.size; (try simp at hz); omega))); have sxw2_0 : w1.heap.size ≤ w2.heap.size := (by first | omega | (have hz := hb.size; (try simp at hz); omega)); have HBw2 : Hid (Below w.heap.size w w2) := (bl_trans (by repeat (first | with_reducible exact Below.refl _ _ | with_reducible exact Hid.out (by assumption) | with_reducible refine Below.setCell ?_ (by first | (simp; done) | omega | (simp <;> omega)) _ | with_reducible refine bl_al ?_ _ | with_reducible apply Below.drew)) hb); clear hb
  go_wp2_with fail
  (with_reducible refine (K3.out _).mono ?_); rintro e w3 ⟨rfl, hb⟩; obtain ⟨hclw3, hfrw3⟩ := bcell hb; have zw3_a : w.heap.size < w3.heap.size := (by first | omega | (have hz := hb.size; (try simp at hz); omega)); have yw3_a : w.heap.size < w3.heap.size + 1 := (by omega); have yyw3_a : w.heap.size < w3.heap.size + 1 + 1 := (by omega); have zw3_b : w.heap.size + 1 < w3.heap.size := (by first | omega | (have hz := hb.size; (try simp at hz); omega)); have yw3_b : w.heap.size + 1 < w3.heap.size + 1 := (by omega); have yyw3_b : w.heap.size + 1 < w3.heap.size + 1 + 1 := (by omega); have zw3_c : w.heap.size + 1 + 1 < w3.heap.size := (by first | omega | (have hz := hb.size; (try simp at hz); omega)); have yw3_c : w.heap.size + 1 + 1 < w3.heap.size + 1 := (by omega); have yyw3_c : w.heap.size + 1 + 1 < w3.heap.size + 1 + 1 := (by omega); (try have sw3_0 : w2.heap.size < w3.heap.size := (by first | omega | (have hz := hb.size; (try simp at hz); omega))); (try have syw3_0 : w2.heap.size < w3.heap.size + 1 := (by omega)); (try have stw3_0 : w2.heap.size + 1 < w3.heap.size := (by first | omega | (have hz := hb.size; (try simp at hz); omega))); have sxw3_0 : w2.heap.size ≤ w3.heap.size := (by first | omega | (have hz := hb.size; (try simp at hz); omega)); have HBw3 : Hid (Below w.heap.size w w3) := (bl_trans (by repeat (first | with_reducible exact Below.refl _ _ | with_reducible exact Hid.out (by assumption) | with_reducible refine Below.setCell ?_ (by first | (simp; done) | omega | (simp <;> omega)) _ | with_reducible refine bl_al ?_ _ | with_reducible apply Below.drew)) hb); clear hb
  go_upto_region 3 with fail
  refine wp_region_held_drew (S := fun w' => w'.cell? ⟨w.heap.size, 0, none⟩ = some (.int .i64 a1) ∧ w'.cell? ⟨w.heap.size, 1, none⟩ = some (.int .u64 a0) ∧ w'.cell? ⟨w.heap.size + 1, 0, none⟩ = some (.int .i64 b1) ∧ w'.cell? ⟨w.heap.size + 1, 1, none⟩ = some (.int .u64 b0)) (by kernel_rfl) ?_ (fun hHeld => ?_)
  · (try dsimp only); (first | (simp [*, go_sem]; done) | (simp [*, go_sem, World.cell?_alloc_past]; done))
  refine wpAnyH_take (i := 0) (oi := _) (v := ?_) (by simp only [List.getElem?_toArray, List.getElem?_cons_zero]; rfl) (by kernel_rfl) (by kernel_rfl) (by kernel_rfl) (by exact fun _ _ _ h => h) (Or.inl ⟨by rfl, ?_⟩) (by assumption) ?_
  rotate_left 1
  · (intro w hSw; (try dsimp only at hSw); go_simp; try with_reducible rfl)
  try simp only [Act.put, List.setIfInBounds_toArray, List.set_cons_zero, List.set_cons_succ]
  refine wpAnyH_take (i := 1) (oi := _) (v := ?_) (by simp only [List.getElem?_toArray, List.getElem?_cons_succ, List.getElem?_cons_zero]; rfl) (by kernel_rfl) (by kernel_rfl) (by kernel_rfl) (by exact fun _ _ _ h => h) (Or.inl ⟨by rfl, ?_⟩) (by assumption) ?_
  rotate_left 1
  · (intro w hSw; (try dsimp only at hSw); go_simp; try with_reducible rfl)
  try simp only [Act.put, List.setIfInBounds_toArray, List.set_cons_zero, List.set_cons_succ]
  refine wpAnyH_take (i := 3) (oi := _) (v := ?_) (by simp only [List.getElem?_toArray, List.getElem?_cons_succ, List.getElem?_cons_zero]; rfl) (by kernel_rfl) (by kernel_rfl) (by kernel_rfl) (by exact fun _ _ _ h => h) (Or.inl ⟨by rfl, ?_⟩) (by assumption) ?_
  rotate_left 1
  · (intro w hSw; (try dsimp only at hSw); go_simp; try with_reducible rfl)
  try simp only [Act.put, List.setIfInBounds_toArray, List.set_cons_zero, List.set_cons_succ]
  refine wpAnyH_take (i := 4) (oi := _) (v := ?_) (by simp only [List.getElem?_toArray, List.getElem?_cons_succ, List.getElem?_cons_zero]; rfl) (by kernel_rfl) (by kernel_rfl) (by kernel_rfl) (by exact fun _ _ _ h => h) (Or.inl ⟨by rfl, ?_⟩) (by assumption) ?_
  rotate_left 1
  · (intro w hSw; (try dsimp only at hSw); go_simp; try with_reducible rfl)
  try simp only [Act.put, List.setIfInBounds_toArray, List.set_cons_zero, List.set_cons_succ]
  refine wpAnyH_ready (rs := [2]) (by kernel_rfl) (by simp) ?_
  refine AllReadyH.cons (o := _) (by simp only [List.getElem?_toArray, List.getElem?_cons_succ, List.getElem?_cons_zero]; rfl) (fun K hK => ?_) AllReadyH.nil
  go_simp
  (go_at_call 15; (with_reducible refine (K4.out _).mono ?_); rintro e w4 ⟨rfl, hb⟩; (first | (with_reducible (obtain ⟨hclw4, hfrw4⟩ := bcell_drew hb)) | (obtain ⟨hclw4, hfrw4⟩ := bcell hb)); have zw4_a : w.heap.size < w4.heap.size := (by first | omega | (have hz := hb.size; (try simp at hz); omega)); have yw4_a : w.heap.size < w4.heap.size + 1 := (by omega); have yyw4_a : w.heap.size < w4.heap.size + 1 + 1 := (by omega); have zw4_b : w.heap.size + 1 < w4.heap.size := (by first | omega | (have hz := hb.size; (try simp at hz); omega)); have yw4_b : w.heap.size + 1 < w4.heap.size + 1 := (by omega); have yyw4_b : w.heap.size + 1 < w4.heap.size + 1 + 1 := (by omega); have zw4_c : w.heap.size + 1 + 1 < w4.heap.size := (by first | omega | (have hz := hb.size; (try simp at hz); omega)); have yw4_c : w.heap.size + 1 + 1 < w4.heap.size + 1 := (by omega); have yyw4_c : w.heap.size + 1 + 1 < w4.heap.size + 1 + 1 := (by omega); (try have sw4_0 : w3.heap.size < w4.heap.size := (by first | omega | (have hz := hb.size; (try simp at hz); omega))); (try have syw4_0 : w3.heap.size < w4.heap.size + 1 := (by omega)); (try have stw4_0 : w3.heap.size + 1 < w4.heap.size := (by first | omega | (have hz := hb.size; (try simp at hz); omega))); have sxw4_0 : w3.heap.size ≤ w4.heap.size := (by first | omega | (have hz := hb.size; (try simp at hz); omega)); have HBw4 : Hid (Below w.heap.size w w4) := (bl_trans (by repeat (first | with_reducible exact Below.refl _ _ | with_reducible exact Hid.out (by assumption) | with_reducible refine Below.setCell ?_ (by first | (simp; done) | omega | (simp <;> omega)) _ | with_reducible refine bl_al ?_ _ | with_reducible apply Below.drew)) hb); clear hb; clear K4)
  try go_wp2_with fail
  refine hK.out _ _ ?_ (fun hHeldN => ?_)
  · (try dsimp only); (first | (simp [*, go_sem]; done) | (simp [*, go_sem, World.cell?_alloc_past]; done))
  clear hK K hHeld; have hHeld := hHeldN; clear hHeldN
  try simp only [Act.put, List.setIfInBounds_toArray, List.set_cons_zero, List.set_cons_succ]
  refine wpAnyH_ready (rs := [5]) (by kernel_rfl) (by simp) ?_
  refine AllReadyH.cons (o := _) (by simp only [List.getElem?_toArray, List.getElem?_cons_succ, List.getElem?_cons_zero]; rfl) (fun K hK => ?_) AllReadyH.nil
  go_simp
  (go_at_call 15; (with_reducible refine (K5.out _).mono ?_); rintro e w5 ⟨rfl, hb⟩; obtain ⟨hclw5, hfrw5⟩ := bcell hb; have zw5_a : w.heap.size < w5.heap.size := (by first | omega | (have hz := hb.size; (try simp at hz); omega)); have yw5_a : w.heap.size < w5.heap.size + 1 := (by omega); have yyw5_a : w.heap.size < w5.heap.size + 1 + 1 := (by omega); have zw5_b : w.heap.size + 1 < w5.heap.size := (by first | omega | (have hz := hb.size; (try simp at hz); omega)); have yw5_b : w.heap.size + 1 < w5.heap.size + 1 := (by omega); have yyw5_b : w.heap.size + 1 < w5.heap.size + 1 + 1 := (by omega); have zw5_c : w.heap.size + 1 + 1 < w5.heap.size := (by first | omega | (have hz := hb.size; (try simp at hz); omega)); have yw5_c : w.heap.size + 1 + 1 < w5.heap.size + 1 := (by omega); have yyw5_c : w.heap.size + 1 + 1 < w5.heap.size + 1 + 1 := (by omega); (try have sw5_0 : w3.heap.size < w5.heap.size := (by first | omega | (have hz := hb.size; (try simp at hz); omega))); (try have syw5_0 : w3.heap.size < w5.heap.size + 1 := (by omega)); (try have stw5_0 : w3.heap.size + 1 < w5.heap.size := (by first | omega | (have hz := hb.size; (try simp at hz); omega))); have sxw5_0 : w3.heap.size ≤ w5.heap.size := (by first | omega | (have hz := hb.size; (try simp at hz); omega)); (try have sw5_w4 : w4.heap.size < w5.heap.size := (by first | omega | (have hz := hb.size; (try simp at hz); omega))); (try have syw5_w4 : w4.heap.size < w5.heap.size + 1 := (by omega)); (try have stw5_w4 : w4.heap.size + 1 < w5.heap.size := (by first | omega | (have hz := hb.size; (try simp at hz); omega))); have sxw5_w4 : w4.heap.size ≤ w5.heap.size := (by first | omega | (have hz := hb.size; (try simp at hz); omega)); have HBw5 : Hid (Below w.heap.size w w5) := (bl_trans (by repeat (first | with_reducible exact Below.refl _ _ | with_reducible exact Hid.out (by assumption) | with_reducible refine Below.setCell ?_ (by first | (simp; done) | omega | (simp <;> omega)) _ | with_reducible refine bl_al ?_ _ | with_reducible apply Below.drew)) hb); clear hb; clear K5)
  try go_wp2_with fail
  refine hK.out _ _ ?_ (fun hHeldN => ?_)
  · (try dsimp only); (first | (simp [*, go_sem]; done) | (simp [*, go_sem, World.cell?_alloc_past]; done))
  clear hK K hHeld; have hHeld := hHeldN; clear hHeldN
  try simp only [Act.put, List.setIfInBounds_toArray, List.set_cons_zero, List.set_cons_succ]
  refine wpAnyH_take (i := 6) (oi := _) (v := ?_) (by simp only [List.getElem?_toArray, List.getElem?_cons_succ, List.getElem?_cons_zero]; rfl) (by kernel_rfl) (by kernel_rfl) (by kernel_rfl) (by exact fun _ _ _ h => h) (Or.inl ⟨by rfl, ?_⟩) (by assumption) ?_
  rotate_left 1
  · (intro w hSw; (try dsimp only at hSw); go_simp; try with_reducible rfl)
  try simp only [Act.put, List.setIfInBounds_toArray, List.set_cons_zero, List.set_cons_succ]
  refine wpAnyH_take (i := 7) (oi := _) (v := ?_) (by simp only [List.getElem?_toArray, List.getElem?_cons_succ, List.getElem?_cons_zero]; rfl) (by kernel_rfl) (by kernel_rfl) (by kernel_rfl) (by exact fun _ _ _ h => h) (Or.inl ⟨by rfl, ?_⟩) (by assumption) ?_
  rotate_left 1
  · (intro w hSw; (try dsimp only at hSw); go_simp; try with_reducible rfl)
  try simp only [Act.put, List.setIfInBounds_toArray, List.set_cons_zero, List.set_cons_succ]
  refine wpAnyH_done (by kernel_rfl) ?_ _
  clear hHeld
  go_upto_region 4 with fail
  refine wp_region_held_drew (S := fun w' => w'.cell? ⟨w.heap.size, 0, none⟩ = some (.int .i64 a1) ∧ w'.cell? ⟨w.heap.size, 1, none⟩ = some (.int .u64 a0) ∧ w'.cell? ⟨w.heap.size + 1, 0, none⟩ = some (.int .i64 b1) ∧ w'.cell? ⟨w.heap.size + 1, 1, none⟩ = some (.int .u64 b0) ∧ w'.cell? ⟨w.heap.size + 1 + 1, 0, none⟩ = some (.int .i64 c1) ∧ w'.cell? ⟨w.heap.size + 1 + 1, 1, none⟩ = some (.int .u64 c0)) (by kernel_rfl) ?_ (fun hHeld => ?_)
  · (try dsimp only); (first | (simp [*, go_sem]; done) | (simp [*, go_sem, World.cell?_alloc_past]; done))
  refine wpAnyH_take (i := 0) (oi := _) (v := ?_) (by simp only [List.getElem?_toArray, List.getElem?_cons_zero]; rfl) (by kernel_rfl) (by kernel_rfl) (by kernel_rfl) (by exact fun _ _ _ h => h) (Or.inl ⟨by rfl, ?_⟩) (by assumption) ?_
  rotate_left 1
  · (intro w hSw; (try dsimp only at hSw); go_simp; try with_reducible rfl)
  try simp only [Act.put, List.setIfInBounds_toArray, List.set_cons_zero, List.set_cons_succ]
  refine wpAnyH_take (i := 1) (oi := _) (v := ?_) (by simp only [List.getElem?_toArray, List.getElem?_cons_succ, List.getElem?_cons_zero]; rfl) (by kernel_rfl) (by kernel_rfl) (by kernel_rfl) (by exact fun _ _ _ h => h) (Or.inl ⟨by rfl, ?_⟩) (by assumption) ?_
  rotate_left 1
  · (intro w hSw; (try dsimp only at hSw); go_simp; try with_reducible rfl)
  try simp only [Act.put, List.setIfInBounds_toArray, List.set_cons_zero, List.set_cons_succ]
  refine wpAnyH_take (i := 2) (oi := _) (v := ?_) (by simp only [List.getElem?_toArray, List.getElem?_cons_succ, List.getElem?_cons_zero]; rfl) (by kernel_rfl) (by kernel_rfl) (by kernel_rfl) (by exact fun _ _ _ h => h) (Or.inl ⟨by rfl, ?_⟩) (by assumption) ?_
  rotate_left 1
  · (intro w hSw; (try dsimp only at hSw); go_simp; try with_reducible rfl)
  try simp only [Act.put, List.setIfInBounds_toArray, List.set_cons_zero, List.set_cons_succ]
  refine wpAnyH_take (i := 3) (oi := _) (v := ?_) (by simp only [List.getElem?_toArray, List.getElem?_cons_succ, List.getElem?_cons_zero]; rfl) (by kernel_rfl) (by kernel_rfl) (by kernel_rfl) (by exact fun _ _ _ h => h) (Or.inl ⟨by rfl, ?_⟩) (by assumption) ?_
  rotate_left 1
  · (intro w hSw; (try dsimp only at hSw); go_simp; try with_reducible rfl)
  try simp only [Act.put, List.setIfInBounds_toArray, List.set_cons_zero, List.set_cons_succ]
  refine wpAnyH_take (i := 4) (oi := _) (v := ?_) (by simp only [List.getElem?_toArray, List.getElem?_cons_succ, List.getElem?_cons_zero]; rfl) (by kernel_rfl) (by kernel_rfl) (by kernel_rfl) (by exact fun _ _ _ h => h) (Or.inl ⟨by rfl, ?_⟩) (by assumption) ?_
  rotate_left 1
  · (intro w hSw; (try dsimp only at hSw); go_simp; try with_reducible rfl)
  try simp only [Act.put, List.setIfInBounds_toArray, List.set_cons_zero, List.set_cons_succ]
  refine wpAnyH_take (i := 5) (oi := _) (v := ?_) (by simp only [List.getElem?_toArray, List.getElem?_cons_succ, List.getElem?_cons_zero]; rfl) (by kernel_rfl) (by kernel_rfl) (by kernel_rfl) (by exact fun _ _ _ h => h) (Or.inl ⟨by rfl, ?_⟩) (by assumption) ?_
  rotate_left 1
  · (intro w hSw; (try dsimp only at hSw); go_simp; try with_reducible rfl)
  try simp only [Act.put, List.setIfInBounds_toArray, List.set_cons_zero, List.set_cons_succ]
  refine wpAnyH_take (i := 6) (oi := _) (v := ?_) (by simp only [List.getElem?_toArray, List.getElem?_cons_succ, List.getElem?_cons_zero]; rfl) (by kernel_rfl) (by kernel_rfl) (by kernel_rfl) (by exact fun _ _ _ h => h) (Or.inl ⟨by rfl, ?_⟩) (by assumption) ?_
  rotate_left 1
  · (intro w hSw; (try dsimp only at hSw); go_simp; try with_reducible rfl)
  try simp only [Act.put, List.setIfInBounds_toArray, List.set_cons_zero, List.set_cons_succ]
  refine wpAnyH_take (i := 7) (oi := _) (v := ?_) (by simp only [List.getElem?_toArray, List.getElem?_cons_succ, List.getElem?_cons_zero]; rfl) (by kernel_rfl) (by kernel_rfl) (by kernel_rfl) (by exact fun _ _ _ h => h) (Or.inl ⟨by rfl, ?_⟩) (by assumption) ?_
  rotate_left 1
  · (intro w hSw; (try dsimp only at hSw); go_simp; try with_reducible rfl)
  try simp only [Act.put, List.setIfInBounds_toArray, List.set_cons_zero, List.set_cons_succ]
  refine wpAnyH_take (i := 8) (oi := _) (v := ?_) (by simp only [List.getElem?_toArray, List.getElem?_cons_succ, List.getElem?_cons_zero]; rfl) (by kernel_rfl) (by kernel_rfl) (by kernel_rfl) (by exact fun _ _ _ h => h) (Or.inl ⟨by rfl, ?_⟩) (by assumption) ?_
  rotate_left 1
  · (intro w hSw; (try dsimp only at hSw); go_simp; try with_reducible rfl)
  try simp only [Act.put, List.setIfInBounds_toArray, List.set_cons_zero, List.set_cons_succ]
  refine wpAnyH_take (i := 9) (oi := _) (v := ?_) (by simp only [List.getElem?_toArray, List.getElem?_cons_succ, List.getElem?_cons_zero]; rfl) (by kernel_rfl) (by kernel_rfl) (by kernel_rfl) (by exact fun _ _ _ h => h) (Or.inl ⟨by rfl, ?_⟩) (by assumption) ?_
  rotate_left 1
  · (intro w hSw; (try dsimp only at hSw); go_simp; try with_reducible rfl)
  try simp only [Act.put, List.setIfInBounds_toArray, List.set_cons_zero, List.set_cons_succ]
  refine wpAnyH_take (i := 10) (oi := _) (v := ?_) (by simp only [List.getElem?_toArray, List.getElem?_cons_succ, List.getElem?_cons_zero]; rfl) (by kernel_rfl) (by kernel_rfl) (by kernel_rfl) (by exact fun _ _ _ h => h) (Or.inl ⟨by rfl, ?_⟩) (by assumption) ?_
  rotate_left 1
  · (intro w hSw; (try dsimp only at hSw); go_simp; try with_reducible rfl)
  try simp only [Act.put, List.setIfInBounds_toArray, List.set_cons_zero, List.set_cons_succ]
  refine wpAnyH_take (i := 11) (oi := _) (v := ?_) (by simp only [List.getElem?_toArray, List.getElem?_cons_succ, List.getElem?_cons_zero]; rfl) (by kernel_rfl) (by kernel_rfl) (by kernel_rfl) (by exact fun _ _ _ h => h) (Or.inl ⟨by rfl, ?_⟩) (by assumption) ?_
  rotate_left 1
  · (intro w hSw; (try dsimp only at hSw); go_simp; try with_reducible rfl)
  try simp only [Act.put, List.setIfInBounds_toArray, List.set_cons_zero, List.set_cons_succ]
  refine wpAnyH_take (i := 12) (oi := _) (v := ?_) (by simp only [List.getElem?_toArray, List.getElem?_cons_succ, List.getElem?_cons_zero]; rfl) (by kernel_rfl) (by kernel_rfl) (by kernel_rfl) (by exact fun _ _ _ h => h) (Or.inl ⟨by rfl, ?_⟩) (by assumption) ?_
  rotate_left 1
  · (intro w hSw; (try dsimp only at hSw); go_simp; try with_reducible rfl)
  try simp only [Act.put, List.setIfInBounds_toArray, List.set_cons_zero, List.set_cons_succ]
  refine wpAnyH_take (i := 13) (oi := _) (v := ?_) (by simp only [List.getElem?_toArray, List.getElem?_cons_succ, List.getElem?_cons_zero]; rfl) (by kernel_rfl) (by kernel_rfl) (by kernel_rfl) (by exact fun _ _ _ h => h) (Or.inl ⟨by rfl, ?_⟩) (by assumption) ?_
  rotate_left 1
  · (intro w hSw; (try dsimp only at hSw); go_simp; try with_reducible rfl)
  try simp only [Act.put, List.setIfInBounds_toArray, List.set_cons_zero, List.set_cons_succ]
  refine wpAnyH_take (i := 14) (oi := _) (v := ?_) (by simp only [List.getElem?_toArray, List.getElem?_cons_succ, List.getElem?_cons_zero]; rfl) (by kernel_rfl) (by kernel_rfl) (by kernel_rfl) (by exact fun _ _ _ h => h) (Or.inl ⟨by rfl, ?_⟩) (by assumption) ?_
  rotate_left 1
  · (intro w hSw; (try dsimp only at hSw); go_simp; try with_reducible rfl)
  try simp only [Act.put, List.setIfInBounds_toArray, List.set_cons_zero, List.set_cons_succ]
  refine wpAnyH_take (i := 15) (oi := _) (v := ?_) (by simp only [List.getElem?_toArray, List.getElem?_cons_succ, List.getElem?_cons_zero]; rfl) (by kernel_rfl) (by kernel_rfl) (by kernel_rfl) (by exact fun _ _ _ h => h) (Or.inl ⟨by rfl, ?_⟩) (by assumption) ?_
  rotate_left 1
  · (intro w hSw; (try dsimp only at hSw); go_simp; try with_reducible rfl)
  try simp only [Act.put, List.setIfInBounds_toArray, List.set_cons_zero, List.set_cons_succ]
  refine wpAnyH_take (i := 16) (oi := _) (v := undef) (by simp only [List.getElem?_toArray, List.getElem?_cons_succ, List.getElem?_cons_zero]; rfl) (by kernel_rfl) (by kernel_rfl) (by kernel_rfl) (by exact fun _ _ _ h => h) (Or.inr ⟨by rfl, rfl⟩) (by assumption) ?_
  try simp only [Act.put, List.setIfInBounds_toArray, List.set_cons_zero, List.set_cons_succ]
  refine wpAnyH_take (i := 17) (oi := _) (v := undef) (by simp only [List.getElem?_toArray, List.getElem?_cons_succ, List.getElem?_cons_zero]; rfl) (by kernel_rfl) (by kernel_rfl) (by kernel_rfl) (by exact fun _ _ _ h => h) (Or.inr ⟨by rfl, rfl⟩) (by assumption) ?_
  try simp only [Act.put, List.setIfInBounds_toArray, List.set_cons_zero, List.set_cons_succ]
  refine wpAnyH_ready (rs := [18]) (by kernel_rfl) (by simp) ?_
  refine AllReadyH.cons (o := _) (by simp only [List.getElem?_toArray, List.getElem?_cons_succ, List.getElem?_cons_zero]; rfl) (fun K hK => ?_) AllReadyH.nil
  go_simp
  refine hK.out _ _ ?_ (fun hHeldN => ?_)
  · (try dsimp only); (first | (simp [*, go_sem]; done) | (simp [*, go_sem, World.cell?_alloc_past]; done))
  clear hK K hHeld; have hHeld := hHeldN; clear hHeldN
  try simp only [Act.put, List.setIfInBounds_toArray, List.set_cons_zero, List.set_cons_succ]
  refine wpAnyH_take (i := 19) (oi := _) (v := undef) (by simp only [List.getElem?_toArray, List.getElem?_cons_succ, List.getElem?_cons_zero]; rfl) (by kernel_rfl) (by kernel_rfl) (by kernel_rfl) (by exact fun _ _ _ h => h) (Or.inr ⟨by rfl, rfl⟩) (by assumption) ?_
  try simp only [Act.put, List.setIfInBounds_toArray, List.set_cons_zero, List.set_cons_succ]
  refine wpAnyH_take (i := 20) (oi := _) (v := ?_) (by simp only [List.getElem?_toArray, List.getElem?_cons_succ, List.getElem?_cons_zero]; rfl) (by kernel_rfl) (by kernel_rfl) (by kernel_rfl) (by exact fun _ _ _ h => h) (Or.inl ⟨by rfl, ?_⟩) (by assumption) ?_
  rotate_left 1
  · (intro w hSw; (try dsimp only at hSw); go_simp; try with_reducible rfl)
  try simp only [Act.put, List.setIfInBounds_toArray, List.set_cons_zero, List.set_cons_succ]
  refine wpAnyH_take (i := 21) (oi := _) (v := ?_) (by simp only [List.getElem?_toArray, List.getElem?_cons_succ, List.getElem?_cons_zero]; rfl) (by kernel_rfl) (by kernel_rfl) (by kernel_rfl) (by exact fun _ _ _ h => h) (Or.inl ⟨by rfl, ?_⟩) (by assumption) ?_
  rotate_left 1
  · (intro w hSw; (try dsimp only at hSw); go_simp; try with_reducible rfl)
  try simp only [Act.put, List.setIfInBounds_toArray, List.set_cons_zero, List.set_cons_succ]
  refine wpAnyH_take (i := 22) (oi := _) (v := undef) (by simp only [List.getElem?_toArray, List.getElem?_cons_succ, List.getElem?_cons_zero]; rfl) (by kernel_rfl) (by kernel_rfl) (by kernel_rfl) (by exact fun _ _ _ h => h) (Or.inr ⟨by rfl, rfl⟩) (by assumption) ?_
  try simp only [Act.put, List.setIfInBounds_toArray, List.set_cons_zero, List.set_cons_succ]
  refine wpAnyH_take (i := 23) (oi := _) (v := undef) (by simp only [List.getElem?_toArray, List.getElem?_cons_succ, List.getElem?_cons_zero]; rfl) (by kernel_rfl) (by kernel_rfl) (by kernel_rfl) (by exact fun _ _ _ h => h) (Or.inr ⟨by rfl, rfl⟩) (by assumption) ?_
  try simp only [Act.put, List.setIfInBounds_toArray, List.set_cons_zero, List.set_cons_succ]
  refine wpAnyH_ready (rs := [24]) (by kernel_rfl) (by simp) ?_
  refine AllReadyH.cons (o := _) (by simp only [List.getElem?_toArray, List.getElem?_cons_succ, List.getElem?_cons_zero]; rfl) (fun K hK => ?_) AllReadyH.nil
  go_simp
  refine hK.out _ _ ?_ (fun hHeldN => ?_)
  · (try dsimp only); (first | (simp [*, go_sem]; done) | (simp [*, go_sem, World.cell?_alloc_past]; done))
  clear hK K hHeld; have hHeld := hHeldN; clear hHeldN
  try simp only [Act.put, List.setIfInBounds_toArray, List.set_cons_zero, List.set_cons_succ]
  refine wpAnyH_take (i := 25) (oi := _) (v := undef) (by simp only [List.getElem?_toArray, List.getElem?_cons_succ, List.getElem?_cons_zero]; rfl) (by kernel_rfl) (by kernel_rfl) (by kernel_rfl) (by exact fun _ _ _ h => h) (Or.inr ⟨by rfl, rfl⟩) (by assumption) ?_
  try simp only [Act.put, List.setIfInBounds_toArray, List.set_cons_zero, List.set_cons_succ]
  refine wpAnyH_take (i := 26) (oi := _) (v := ?_) (by simp only [List.getElem?_toArray, List.getElem?_cons_succ, List.getElem?_cons_zero]; rfl) (by kernel_rfl) (by kernel_rfl) (by kernel_rfl) (by exact fun _ _ _ h => h) (Or.inl ⟨by rfl, ?_⟩) (by assumption) ?_
  rotate_left 1
  · (intro w hSw; (try dsimp only at hSw); go_simp; try with_reducible rfl)
  try simp only [Act.put, List.setIfInBounds_toArray, List.set_cons_zero, List.set_cons_succ]
  refine wpAnyH_take (i := 27) (oi := _) (v := ?_) (by simp only [List.getElem?_toArray, List.getElem?_cons_succ, List.getElem?_cons_zero]; rfl) (by kernel_rfl) (by kernel_rfl) (by kernel_rfl) (by exact fun _ _ _ h => h) (Or.inl ⟨by rfl, ?_⟩) (by assumption) ?_
  rotate_left 1
  · (intro w hSw; (try dsimp only at hSw); go_simp; try with_reducible rfl)
  try simp only [Act.put, List.setIfInBounds_toArray, List.set_cons_zero, List.set_cons_succ]
  refine wpAnyH_take (i := 28) (oi := _) (v := ?_) (by simp only [List.getElem?_toArray, List.getElem?_cons_succ, List.getElem?_cons_zero]; rfl) (by kernel_rfl) (by kernel_rfl) (by kernel_rfl) (by exact fun _ _ _ h => h) (Or.inl ⟨by rfl, ?_⟩) (by assumption) ?_
  rotate_left 1
  · (intro w hSw; (try dsimp only at hSw); go_simp; try with_reducible rfl)
  try simp only [Act.put, List.setIfInBounds_toArray, List.set_cons_zero, List.set_cons_succ]
  refine wpAnyH_take (i := 29) (oi := _) (v := ?_) (by simp only [List.getElem?_toArray, List.getElem?_cons_succ, List.getElem?_cons_zero]; rfl) (by kernel_rfl) (by kernel_rfl) (by kernel_rfl) (by exact fun _ _ _ h => h) (Or.inl ⟨by rfl, ?_⟩) (by assumption) ?_
  rotate_left 1
  · (intro w hSw; (try dsimp only at hSw); go_simp; try with_reducible rfl)
  try simp only [Act.put, List.setIfInBounds_toArray, List.set_cons_zero, List.set_cons_succ]
  refine wpAnyH_take (i := 31) (oi := _) (v := ?_) (by simp only [List.getElem?_toArray, List.getElem?_cons_succ, List.getElem?_cons_zero]; rfl) (by kernel_rfl) (by kernel_rfl) (by kernel_rfl) (by exact fun _ _ _ h => h) (Or.inl ⟨by rfl, ?_⟩) (by assumption) ?_
  rotate_left 1
  · (intro w hSw; (try dsimp only at hSw); go_simp; try with_reducible rfl)
  try simp only [Act.put, List.setIfInBounds_toArray, List.set_cons_zero, List.set_cons_succ]
  refine wpAnyH_take (i := 34) (oi := _) (v := ?_) (by simp only [List.getElem?_toArray, List.getElem?_cons_succ, List.getElem?_cons_zero]; rfl) (by kernel_rfl) (by kernel_rfl) (by kernel_rfl) (by exact fun _ _ _ h => h) (Or.inl ⟨by rfl, ?_⟩) (by assumption) ?_
  rotate_left 1
  · (intro w hSw; (try dsimp only at hSw); go_simp; try with_reducible rfl)
  try simp only [Act.put, List.setIfInBounds_toArray, List.set_cons_zero, List.set_cons_succ]
  refine wpAnyH_ready (rs := [30]) (by kernel_rfl) (by simp) ?_
  refine AllReadyH.cons (o := _) (by simp only [List.getElem?_toArray, List.getElem?_cons_succ, List.getElem?_cons_zero]; rfl) (fun K hK => ?_) AllReadyH.nil
  go_simp
  (go_at_call 30; (with_reducible refine (K8.out _).mono ?_); rintro e w6 ⟨rfl, hb⟩; (first | (with_reducible (obtain ⟨hclw6, hfrw6⟩ := bcell_drew hb)) | (obtain ⟨hclw6, hfrw6⟩ := bcell hb)); have zw6_a : w.heap.size < w6.heap.size := (by first | omega | (have hz := hb.size; (try simp at hz); omega)); have yw6_a : w.heap.size < w6.heap.size + 1 := (by omega); have yyw6_a : w.heap.size < w6.heap.size + 1 + 1 := (by omega); have zw6_b : w.heap.size + 1 < w6.heap.size := (by first | omega | (have hz := hb.size; (try simp at hz); omega)); have yw6_b : w.heap.size + 1 < w6.heap.size + 1 := (by omega); have yyw6_b : w.heap.size + 1 < w6.heap.size + 1 + 1 := (by omega); have zw6_c : w.heap.size + 1 + 1 < w6.heap.size := (by first | omega | (have hz := hb.size; (try simp at hz); omega)); have yw6_c : w.heap.size + 1 + 1 < w6.heap.size + 1 := (by omega); have yyw6_c : w.heap.size + 1 + 1 < w6.heap.size + 1 + 1 := (by omega); (try have sw6_0 : w5.heap.size < w6.heap.size := (by first | omega | (have hz := hb.size; (try simp at hz); omega))); (try have syw6_0 : w5.heap.size < w6.heap.size + 1 := (by omega)); (try have stw6_0 : w5.heap.size + 1 < w6.heap.size := (by first | omega | (have hz := hb.size; (try simp at hz); omega))); have sxw6_0 : w5.heap.size ≤ w6.heap.size := (by first | omega | (have hz := hb.size; (try simp at hz); omega)); have HBw6 : Hid (Below w.heap.size w w6) := (bl_trans (by repeat (first | with_reducible exact Below.refl _ _ | with_reducible exact Hid.out (by assumption) | with_reducible refine Below.setCell ?_ (by first | (simp; done) | omega | (simp <;> omega)) _ | with_reducible refine bl_al ?_ _ | with_reducible apply Below.drew)) hb); clear hb; clear K8)
  try go_wp2_with fail
  refine hK.out _ _ ?_ (fun hHeldN => ?_)
  · (try dsimp only); (first | (simp [*, go_sem]; done) | (simp [*, go_sem, World.cell?_alloc_past]; done))
  clear hK K hHeld; have hHeld := hHeldN; clear hHeldN
  try simp only [Act.put, List.setIfInBounds_toArray, List.set_cons_zero, List.set_cons_succ]
  refine wpAnyH_ready (rs := [32]) (by kernel_rfl) (by simp) ?_
  refine AllReadyH.cons (o := _) (by simp only [List.getElem?_toArray, List.getElem?_cons_succ, List.getElem?_cons_zero]; rfl) (fun K hK => ?_) AllReadyH.nil
  go_simp
  (go_at_call 30; (with_reducible refine (K9.out _).mono ?_); rintro e w7 ⟨rfl, hb⟩; obtain ⟨hclw7, hfrw7⟩ := bcell hb; have zw7_a : w.heap.size < w7.heap.size := (by first | omega | (have hz := hb.size; (try simp at hz); omega)); have yw7_a : w.heap.size < w7.heap.size + 1 := (by omega); have yyw7_a : w.heap.size < w7.heap.size + 1 + 1 := (by omega); have zw7_b : w.heap.size + 1 < w7.heap.size := (by first | omega | (have hz := hb.size; (try simp at hz); omega)); have yw7_b : w.heap.size + 1 < w7.heap.size + 1 := (by omega); have yyw7_b : w.heap.size + 1 < w7.heap.size + 1 + 1 := (by omega); have zw7_c : w.heap.size + 1 + 1 < w7.heap.size := (by first | omega | (have hz := hb.size; (try simp at hz); omega)); have yw7_c : w.heap.size + 1 + 1 < w7.heap.size + 1 := (by omega); have yyw7_c : w.heap.size + 1 + 1 < w7.heap.size + 1 + 1 := (by omega); (try have sw7_0 : w5.heap.size < w7.heap.size := (by first | omega | (have hz := hb.size; (try simp at hz); omega))); (try have syw7_0 : w5.heap.size < w7.heap.size + 1 := (by omega)); (try have stw7_0 : w5.heap.size + 1 < w7.heap.size := (by first | omega | (have hz := hb.size; (try simp at hz); omega))); have sxw7_0 : w5.heap.size ≤ w7.heap.size := (by first | omega | (have hz := hb.size; (try simp at hz); omega)); (try have sw7_w6 : w6.heap.size < w7.heap.size := (by first | omega | (have hz := hb.size; (try simp at hz); omega))); (try have syw7_w6 : w6.heap.size < w7.heap.size + 1 := (by omega)); (try have stw7_w6 : w6.heap.size + 1 < w7.heap.size := (by first | omega | (have hz := hb.size; (try simp at hz); omega))); have sxw7_w6 : w6.heap.size ≤ w7.heap.size := (by first | omega | (have hz := hb.size; (try simp at hz); omega)); have HBw7 : Hid (Below w.heap.size w w7) := (bl_trans (by repeat (first | with_reducible exact Below.refl _ _ | with_reducible exact Hid.out (by assumption) | with_reducible refine Below.setCell ?_ (by first | (simp; done) | omega | (simp <;> omega)) _ | with_reducible refine bl_al ?_ _ | with_reducible apply Below.drew)) hb); clear hb; clear K9)
  try go_wp2_with fail
  refine hK.out _ _ ?_ (fun hHeldN => ?_)
  · (try dsimp only); (first | (simp [*, go_sem]; done) | (simp [*, go_sem, World.cell?_alloc_past]; done))
  clear hK K hHeld; have hHeld := hHeldN; clear hHeldN
  try simp only [Act.put, List.setIfInBounds_toArray, List.set_cons_zero, List.set_cons_succ]
  refine wpAnyH_ready (rs := [33]) (by kernel_rfl) (by simp) ?_
  refine AllReadyH.cons (o := _) (by simp only [List.getElem?_toArray, List.getElem?_cons_succ, List.getElem?_cons_zero]; rfl) (fun K hK => ?_) AllReadyH.nil
  go_simp
  (go_at_call 15; (with_reducible refine (K10.out _).mono ?_); rintro e w8 ⟨rfl, hb⟩; obtain ⟨hclw8, hfrw8⟩ := bcell hb; have zw8_a : w.heap.size < w8.heap.size := (by first | omega | (have hz := hb.size; (try simp at hz); omega)); have yw8_a : w.heap.size < w8.heap.size + 1 := (by omega); have yyw8_a : w.heap.size < w8.heap.size + 1 + 1 := (by omega); have zw8_b : w.heap.size + 1 < w8.heap.size := (by first | omega | (have hz := hb.size; (try simp at hz); omega)); have yw8_b : w.heap.size + 1 < w8.heap.size + 1 := (by omega); have yyw8_b : w.heap.size + 1 < w8.heap.size + 1 + 1 := (by omega); have zw8_c : w.heap.size + 1 + 1 < w8.heap.size := (by first | omega | (have hz := hb.size; (try simp at hz); omega)); have yw8_c : w.heap.size + 1 + 1 < w8.heap.size + 1 := (by omega); have yyw8_c : w.heap.size + 1 + 1 < w8.heap.size + 1 + 1 := (by omega); (try have sw8_0 : w5.heap.size < w8.heap.size := (by first | omega | (have hz := hb.size; (try simp at hz); omega))); (try have syw8_0 : w5.heap.size < w8.heap.size + 1 := (by omega)); (try have stw8_0 : w5.heap.size + 1 < w8.heap.size := (by first | omega | (have hz := hb.size; (try simp at hz); omega))); have sxw8_0 : w5.heap.size ≤ w8.heap.size := (by first | omega | (have hz := hb.size; (try simp at hz); omega)); (try have sw8_w6 : w6.heap.size < w8.heap.size := (by first | omega | (have hz := hb.size; (try simp at hz); omega))); (try have syw8_w6 : w6.heap.size < w8.heap.size + 1 := (by omega)); (try have stw8_w6 : w6.heap.size + 1 < w8.heap.size := (by first | omega | (have hz := hb.size; (try simp at hz); omega))); have sxw8_w6 : w6.heap.size ≤ w8.heap.size := (by first | omega | (have hz := hb.size; (try simp at hz); omega)); (try have sw8_w7 : w7.heap.size < w8.heap.size := (by first | omega | (have hz := hb.size; (try simp at hz); omega))); (try have syw8_w7 : w7.heap.size < w8.heap.size + 1 := (by omega)); (try have stw8_w7 : w7.heap.size + 1 < w8.heap.size := (by first | omega | (have hz := hb.size; (try simp at hz); omega))); have sxw8_w7 : w7.heap.size ≤ w8.heap.size := (by first | omega | (have hz := hb.size; (try simp at hz); omega)); have HBw8 : Hid (Below w.heap.size w w8) := (bl_trans (by repeat (first | with_reducible exact Below.refl _ _ | with_reducible exact Hid.out (by assumption) | with_reducible refine Below.setCell ?_ (by first | (simp; done) | omega | (simp <;> omega)) _ | with_reducible refine bl_al ?_ _ | with_reducible apply Below.drew)) hb); clear hb; clear K10)
  try go_wp2_with fail
  refine hK.out _ _ ?_ (fun hHeldN => ?_)
  · (try dsimp only); (first | (simp [*, go_sem]; done) | (simp [*, go_sem, World.cell?_alloc_past]; done))
  clear hK K hHeld; have hHeld := hHeldN; clear hHeldN
  try simp only [Act.put, List.setIfInBounds_toArray, List.set_cons_zero, List.set_cons_succ]
  refine wpAnyH_take (i := 35) (oi := _) (v := ?_) (by simp only [List.getElem?_toArray, List.getElem?_cons_succ, List.getElem?_cons_zero]; rfl) (by kernel_rfl) (by kernel_rfl) (by kernel_rfl) (by exact fun _ _ _ h => h) (Or.inl ⟨by rfl, ?_⟩) (by assumption) ?_
  rotate_left 1
  · (intro w hSw; (try dsimp only at hSw); go_simp; try with_reducible rfl)
  try simp only [Act.put, List.setIfInBounds_toArray, List.set_cons_zero, List.set_cons_succ]
  refine wpAnyH_take (i := 36) (oi := _) (v := ?_) (by simp only [List.getElem?_toArray, List.getElem?_cons_succ, List.getElem?_cons_zero]; rfl) (by kernel_rfl) (by kernel_rfl) (by kernel_rfl) (by exact fun _ _ _ h => h) (Or.inl ⟨by rfl, ?_⟩) (by assumption) ?_
  rotate_left 1
  · (intro w hSw; (try dsimp only at hSw); go_simp; try with_reducible rfl)
  try simp only [Act.put, List.setIfInBounds_toArray, List.set_cons_zero, List.set_cons_succ]
  refine wpAnyH_take (i := 37) (oi := _) (v := ?_) (by simp only [List.getElem?_toArray, List.getElem?_cons_succ, List.getElem?_cons_zero]; rfl) (by kernel_rfl) (by kernel_rfl) (by kernel_rfl) (by exact fun _ _ _ h => h) (Or.inl ⟨by rfl, ?_⟩) (by assumption) ?_
  rotate_left 1
  · (intro w hSw; (try dsimp only at hSw); go_simp; try with_reducible rfl)
  try simp only [Act.put, List.setIfInBounds_toArray, List.set_cons_zero, List.set_cons_succ]
  refine wpAnyH_ready (rs := [38]) (by kernel_rfl) (by simp) ?_
  refine AllReadyH.cons (o := _) (by simp only [List.getElem?_toArray, List.getElem?_cons_succ, List.getElem?_cons_zero]; rfl) (fun K hK => ?_) AllReadyH.nil
  go_simp
  (go_at_call 17; (with_reducible refine (K11.out _).mono ?_); rintro e w9 ⟨rfl, hb⟩; obtain ⟨hclw9, hfrw9⟩ := bcell hb; have zw9_a : w.heap.size < w9.heap.size := (by first | omega | (have hz := hb.size; (try simp at hz); omega)); have yw9_a : w.heap.size < w9.heap.size + 1 := (by omega); have yyw9_a : w.heap.size < w9.heap.size + 1 + 1 := (by omega); have zw9_b : w.heap.size + 1 < w9.heap.size := (by first | omega | (have hz := hb.size; (try simp at hz); omega)); have yw9_b : w.heap.size + 1 < w9.heap.size + 1 := (by omega); have yyw9_b : w.heap.size + 1 < w9.heap.size + 1 + 1 := (by omega); have zw9_c : w.heap.size + 1 + 1 < w9.heap.size := (by first | omega | (have hz := hb.size; (try simp at hz); omega)); have yw9_c : w.heap.size + 1 + 1 < w9.heap.size + 1 := (by omega); have yyw9_c : w.heap.size + 1 + 1 < w9.heap.size + 1 + 1 := (by omega); (try have sw9_0 : w5.heap.size < w9.heap.size := (by first | omega | (have hz := hb.size; (try simp at hz); omega))); (try have syw9_0 : w5.heap.size < w9.heap.size + 1 := (by omega)); (try have stw9_0 : w5.heap.size + 1 < w9.heap.size := (by first | omega | (have hz := hb.size; (try simp at hz); omega))); have sxw9_0 : w5.heap.size ≤ w9.heap.size := (by first | omega | (have hz := hb.size; (try simp at hz); omega)); (try have sw9_w6 : w6.heap.size < w9.heap.size := (by first | omega | (have hz := hb.size; (try simp at hz); omega))); (try have syw9_w6 : w6.heap.size < w9.heap.size + 1 := (by omega)); (try have stw9_w6 : w6.heap.size + 1 < w9.heap.size := (by first | omega | (have hz := hb.size; (try simp at hz); omega))); have sxw9_w6 : w6.heap.size ≤ w9.heap.size := (by first | omega | (have hz := hb.size; (try simp at hz); omega)); (try have sw9_w7 : w7.heap.size < w9.heap.size := (by first | omega | (have hz := hb.size; (try simp at hz); omega))); (try have syw9_w7 : w7.heap.size < w9.heap.size + 1 := (by omega)); (try have stw9_w7 : w7.heap.size + 1 < w9.heap.size := (by first | omega | (have hz := hb.size; (try simp at hz); omega))); have sxw9_w7 : w7.heap.size ≤ w9.heap.size := (by first | omega | (have hz := hb.size; (try simp at hz); omega)); (try have sw9_w8 : w8.heap.size < w9.heap.size := (by first | omega | (have hz := hb.size; (try simp at hz); omega))); (try have syw9_w8 : w8.heap.size < w9.heap.size + 1 := (by omega)); (try have stw9_w8 : w8.heap.size + 1 < w9.heap.size := (by first | omega | (have hz := hb.size; (try simp at hz); omega))); have sxw9_w8 : w8.heap.size ≤ w9.heap.size := (by first | omega | (have hz := hb.size; (try simp at hz); omega)); have HBw9 : Hid (Below w.heap.size w w9) := (bl_trans (by repeat (first | with_reducible exact Below.refl _ _ | with_reducible exact Hid.out (by assumption) | with_reducible refine Below.setCell ?_ (by first | (simp; done) | omega | (simp <;> omega)) _ | with_reducible refine bl_al ?_ _ | with_reducible apply Below.drew)) hb); clear hb; clear K11)
  try go_wp2_with fail
  refine hK.out _ _ ?_ (fun hHeldN => ?_)
  · (try dsimp only); (first | (simp [*, go_sem]; done) | (simp [*, go_sem, World.cell?_alloc_past]; done))
  clear hK K hHeld; have hHeld := hHeldN; clear hHeldN
  try simp only [Act.put, List.setIfInBounds_toArray, List.set_cons_zero, List.set_cons_succ]
  refine wpAnyH_take (i := 39) (oi := _) (v := ?_) (by simp only [List.getElem?_toArray, List.getElem?_cons_succ, List.getElem?_cons_zero]; rfl) (by kernel_rfl) (by kernel_rfl) (by kernel_rfl) (by exact fun _ _ _ h => h) (Or.inl ⟨by rfl, ?_⟩) (by assumption) ?_
  rotate_left 1
  · (intro w hSw; (try dsimp only at hSw); go_simp; try with_reducible rfl)
  try simp only [Act.put, List.setIfInBounds_toArray, List.set_cons_zero, List.set_cons_succ]
  refine wpAnyH_take (i := 40) (oi := _) (v := ?_) (by simp only [List.getElem?_toArray, List.getElem?_cons_succ, List.getElem?_cons_zero]; rfl) (by kernel_rfl) (by kernel_rfl) (by kernel_rfl) (by exact fun _ _ _ h => h) (Or.inl ⟨by rfl, ?_⟩) (by assumption) ?_
  rotate_left 1
  · (intro w hSw; (try dsimp only at hSw); go_simp; try with_reducible rfl)
  try simp only [Act.put, List.setIfInBounds_toArray, List.set_cons_zero, List.set_cons_succ]
  refine wpAnyH_done (by kernel_rfl) ?_ _
  clear hHeld
  go_wp2_with fail
  go_returns
  exact ⟨rfl, by repeat (first | with_reducible exact Below.refl _ _ | with_reducible exact Hid.out (by assumption) | with_reducible refine Below.setCell ?_ (by first | (simp; done) | omega | (simp <;> omega)) _ | with_reducible refine bl_al ?_ _ | with_reducible apply Below.drew)⟩
set_option maxRecDepth 20000 in
set_option maxHeartbeats 4000000 in
theorem fixOrder_u (a1 a0 b1 b0 c1 c0 x y u v m1 m0 n1 n0 : Int) (d : Bool) (hy : IntKind.i64.wrap (-y) = x) (q : ∀ W, (Go.binOp .eql 24 (.agg #[.int .i64 a1, .int .u64 a0]) (.agg #[.int .i64 b1, .int .u64 b0])).run Try.prog W = .ok (.bool d) W) (hd : (x == 0) = d) (hx : ¬ 0 < x) (hu : 0 < u) (w : World)
    (C1 : ∀ W, Calls Try.prog 14 #[.agg #[.int .i64 a1, .int .u64 a0]] W fun e w' => e = .returned (.bool true) ∧ Below W.heap.size W w')
    (C2 : ∀ W, Calls Try.prog 14 #[.agg #[.int .i64 b1, .int .u64 b0]] W fun e w' => e = .returned (.bool true) ∧ Below W.heap.size W w')
    (C3 : ∀ W, Calls Try.prog 14 #[.agg #[.int .i64 c1, .int .u64 c0]] W fun e w' => e = .returned (.bool true) ∧ Below W.heap.size W w')
    (C4 : ∀ W, Calls Try.prog 15 #[.agg #[.int .i64 a1, .int .u64 a0], .agg #[.int .i64 b1, .int .u64 b0]] W fun e w' => e = .returned (.int .i64 x) ∧ Below W.heap.size W w')
    (C5 : ∀ W, Calls Try.prog 15 #[.agg #[.int .i64 b1, .int .u64 b0], .agg #[.int .i64 a1, .int .u64 a0]] W fun e w' => e = .returned (.int .i64 y) ∧ Below W.heap.size W w')
    (C6 : ∀ W, Calls Try.prog 15 #[.agg #[.int .i64 b1, .int .u64 b0], .agg #[.int .i64 c1, .int .u64 c0]] W fun e w' => e = .returned (.int .i64 u) ∧ Below W.heap.size W w')
    (C7 : ∀ W, Calls Try.prog 15 #[.agg #[.int .i64 a1, .int .u64 a0], .agg #[.int .i64 c1, .int .u64 c0]] W fun e w' => e = .returned (.int .i64 v) ∧ Below W.heap.size W w')
    (C8 : ∀ W, Calls Try.prog 30 #[.agg #[.int .i64 a1, .int .u64 a0]] W fun e w' => e = .returned (.agg #[.int .i64 m1, .int .u64 m0]) ∧ Below W.heap.size W w')
    (C9 : ∀ W, Calls Try.prog 30 #[.agg #[.int .i64 b1, .int .u64 b0]] W fun e w' => e = .returned (.agg #[.int .i64 n1, .int .u64 n0]) ∧ Below W.heap.size W w')
    (C10 : ∀ W, Calls Try.prog 15 #[.agg #[.int .i64 m1, .int .u64 m0], .agg #[.int .i64 n1, .int .u64 n0]] W fun e w' => e = .returned (.int .i64 y) ∧ Below W.heap.size W w')
    (C11 : ∀ W, Calls Try.prog 17 #[] W fun e w' => e = .returned (.bool true) ∧ Below W.heap.size W w') :
    Calls Try.prog 10 #[.agg #[.int .i64 a1, .int .u64 a0], .agg #[.int .i64 b1, .int .u64 b0], .agg #[.int .i64 c1, .int .u64 c0]] w fun e w' => e = .returned (.bool true) ∧ Below w.heap.size w w' := by
  have K1 := Lib.hid C1; have K2 := Lib.hid C2; have K3 := Lib.hid C3; have K4 := Lib.hid C4; have K5 := Lib.hid C5; have K6 := Lib.hid C6; have K7 := Lib.hid C7; have K8 := Lib.hid C8; have K9 := Lib.hid C9; have K10 := Lib.hid C10; have K11 := Lib.hid C11
  clear C1 C2 C3 C4 C5 C6 C7 C8 C9 C10 C11
  have dx : decide (x > 0) = false := by simp; omega
  have du : decide (u > 0) = true := by simp; omega
  clear hx hu
  go_enter Try.func10, Try.ntmps10
  go_wp2_with fail
  (with_reducible refine (K1.out _).mono ?_); rintro e w1 ⟨rfl, hb⟩; obtain ⟨hclw1, hfrw1⟩ := bcell hb; have zw1_a : w.heap.size < w1.heap.size := (by first | omega | (have hz := hb.size; (try simp at hz); omega)); have yw1_a : w.heap.size < w1.heap.size + 1 := (by omega); have yyw1_a : w.heap.size < w1.heap.size + 1 + 1 := (by omega); have zw1_b : w.heap.size + 1 < w1.heap.size := (by first | omega | (have hz := hb.size; (try simp at hz); omega)); have yw1_b : w.heap.size + 1 < w1.heap.size + 1 := (by omega); have yyw1_b : w.heap.size + 1 < w1.heap.size + 1 + 1 := (by omega); have zw1_c : w.heap.size + 1 + 1 < w1.heap.size := (by first | omega | (have hz := hb.size; (try simp at hz); omega)); have yw1_c : w.heap.size + 1 + 1 < w1.heap.size + 1 := (by omega); have yyw1_c : w.heap.size + 1 + 1 < w1.heap.size + 1 + 1 := (by omega); (try have sw1_0 : w.heap.size + 1 + 1 + 1 < w1.heap.size := (by first | omega | (have hz := hb.size; (try simp at hz); omega))); (try have syw1_0 : w.heap.size + 1 + 1 + 1 < w1.heap.size + 1 := (by omega)); (try have stw1_0 : w.heap.size + 1 + 1 + 1 + 1 < w1.heap.size := (by first | omega | (have hz := hb.size; (try simp at hz); omega))); have sxw1_0 : w.heap.size + 1 + 1 + 1 ≤ w1.heap.size := (by first | omega | (have hz := hb.size; (try simp at hz); omega)); have HBw1 : Hid (Below w.heap.size w w1) := (bl_trans (by repeat (first | with_reducible exact Below.refl _ _ | with_reducible exact Hid.out (by assumption) | with_reducible refine Below.setCell ?_ (by first | (simp; done) | omega | (simp <;> omega)) _ | with_reducible refine bl_al ?_ _ | with_reducible apply Below.drew)) hb); clear hb
  go_wp2_with fail
  (with_reducible refine (K2.out _).mono ?_); rintro e w2 ⟨rfl, hb⟩; obtain ⟨hclw2, hfrw2⟩ := bcell hb; have zw2_a : w.heap.size < w2.heap.size := (by first | omega | (have hz := hb.size; (try simp at hz); omega)); have yw2_a : w.heap.size < w2.heap.size + 1 := (by omega); have yyw2_a : w.heap.size < w2.heap.size + 1 + 1 := (by omega); have zw2_b : w.heap.size + 1 < w2.heap.size := (by first | omega | (have hz := hb.size; (try simp at hz); omega)); have yw2_b : w.heap.size + 1 < w2.heap.size + 1 := (by omega); have yyw2_b : w.heap.size + 1 < w2.heap.size + 1 + 1 := (by omega); have zw2_c : w.heap.size + 1 + 1 < w2.heap.size := (by first | omega | (have hz := hb.size; (try simp at hz); omega)); have yw2_c : w.heap.size + 1 + 1 < w2.heap.size + 1 := (by omega); have yyw2_c : w.heap.size + 1 + 1 < w2.heap.size + 1 + 1 := (by omega); (try have sw2_0 : w1.heap.size < w2.heap.size := (by first | omega | (have hz := hb.size; (try simp at hz); omega))); (try have syw2_0 : w1.heap.size < w2.heap.size + 1 := (by omega)); (try have stw2_0 : w1.heap.size + 1 < w2.heap.size := (by first | omega | (have hz := hb.size; (try simp at hz); omega))); have sxw2_0 : w1.heap.size ≤ w2.heap.size := (by first | omega | (have hz := hb.size; (try simp at hz); omega)); have HBw2 : Hid (Below w.heap.size w w2) := (bl_trans (by repeat (first | with_reducible exact Below.refl _ _ | with_reducible exact Hid.out (by assumption) | with_reducible refine Below.setCell ?_ (by first | (simp; done) | omega | (simp <;> omega)) _ | with_reducible refine bl_al ?_ _ | with_reducible apply Below.drew)) hb); clear hb
  go_wp2_with fail
  (with_reducible refine (K3.out _).mono ?_); rintro e w3 ⟨rfl, hb⟩; obtain ⟨hclw3, hfrw3⟩ := bcell hb; have zw3_a : w.heap.size < w3.heap.size := (by first | omega | (have hz := hb.size; (try simp at hz); omega)); have yw3_a : w.heap.size < w3.heap.size + 1 := (by omega); have yyw3_a : w.heap.size < w3.heap.size + 1 + 1 := (by omega); have zw3_b : w.heap.size + 1 < w3.heap.size := (by first | omega | (have hz := hb.size; (try simp at hz); omega)); have yw3_b : w.heap.size + 1 < w3.heap.size + 1 := (by omega); have yyw3_b : w.heap.size + 1 < w3.heap.size + 1 + 1 := (by omega); have zw3_c : w.heap.size + 1 + 1 < w3.heap.size := (by first | omega | (have hz := hb.size; (try simp at hz); omega)); have yw3_c : w.heap.size + 1 + 1 < w3.heap.size + 1 := (by omega); have yyw3_c : w.heap.size + 1 + 1 < w3.heap.size + 1 + 1 := (by omega); (try have sw3_0 : w2.heap.size < w3.heap.size := (by first | omega | (have hz := hb.size; (try simp at hz); omega))); (try have syw3_0 : w2.heap.size < w3.heap.size + 1 := (by omega)); (try have stw3_0 : w2.heap.size + 1 < w3.heap.size := (by first | omega | (have hz := hb.size; (try simp at hz); omega))); have sxw3_0 : w2.heap.size ≤ w3.heap.size := (by first | omega | (have hz := hb.size; (try simp at hz); omega)); have HBw3 : Hid (Below w.heap.size w w3) := (bl_trans (by repeat (first | with_reducible exact Below.refl _ _ | with_reducible exact Hid.out (by assumption) | with_reducible refine Below.setCell ?_ (by first | (simp; done) | omega | (simp <;> omega)) _ | with_reducible refine bl_al ?_ _ | with_reducible apply Below.drew)) hb); clear hb
  go_upto_region 3 with fail
  refine wp_region_held_drew (S := fun w' => w'.cell? ⟨w.heap.size, 0, none⟩ = some (.int .i64 a1) ∧ w'.cell? ⟨w.heap.size, 1, none⟩ = some (.int .u64 a0) ∧ w'.cell? ⟨w.heap.size + 1, 0, none⟩ = some (.int .i64 b1) ∧ w'.cell? ⟨w.heap.size + 1, 1, none⟩ = some (.int .u64 b0)) (by kernel_rfl) ?_ (fun hHeld => ?_)
  · (try dsimp only); (first | (simp [*, go_sem]; done) | (simp [*, go_sem, World.cell?_alloc_past]; done))
  refine wpAnyH_take (i := 0) (oi := _) (v := ?_) (by simp only [List.getElem?_toArray, List.getElem?_cons_zero]; rfl) (by kernel_rfl) (by kernel_rfl) (by kernel_rfl) (by exact fun _ _ _ h => h) (Or.inl ⟨by rfl, ?_⟩) (by assumption) ?_
  rotate_left 1
  · (intro w hSw; (try dsimp only at hSw); go_simp; try with_reducible rfl)
  try simp only [Act.put, List.setIfInBounds_toArray, List.set_cons_zero, List.set_cons_succ]
  refine wpAnyH_take (i := 1) (oi := _) (v := ?_) (by simp only [List.getElem?_toArray, List.getElem?_cons_succ, List.getElem?_cons_zero]; rfl) (by kernel_rfl) (by kernel_rfl) (by kernel_rfl) (by exact fun _ _ _ h => h) (Or.inl ⟨by rfl, ?_⟩) (by assumption) ?_
  rotate_left 1
  · (intro w hSw; (try dsimp only at hSw); go_simp; try with_reducible rfl)
  try simp only [Act.put, List.setIfInBounds_toArray, List.set_cons_zero, List.set_cons_succ]
  refine wpAnyH_take (i := 3) (oi := _) (v := ?_) (by simp only [List.getElem?_toArray, List.getElem?_cons_succ, List.getElem?_cons_zero]; rfl) (by kernel_rfl) (by kernel_rfl) (by kernel_rfl) (by exact fun _ _ _ h => h) (Or.inl ⟨by rfl, ?_⟩) (by assumption) ?_
  rotate_left 1
  · (intro w hSw; (try dsimp only at hSw); go_simp; try with_reducible rfl)
  try simp only [Act.put, List.setIfInBounds_toArray, List.set_cons_zero, List.set_cons_succ]
  refine wpAnyH_take (i := 4) (oi := _) (v := ?_) (by simp only [List.getElem?_toArray, List.getElem?_cons_succ, List.getElem?_cons_zero]; rfl) (by kernel_rfl) (by kernel_rfl) (by kernel_rfl) (by exact fun _ _ _ h => h) (Or.inl ⟨by rfl, ?_⟩) (by assumption) ?_
  rotate_left 1
  · (intro w hSw; (try dsimp only at hSw); go_simp; try with_reducible rfl)
  try simp only [Act.put, List.setIfInBounds_toArray, List.set_cons_zero, List.set_cons_succ]
  refine wpAnyH_ready (rs := [2]) (by kernel_rfl) (by simp) ?_
  refine AllReadyH.cons (o := _) (by simp only [List.getElem?_toArray, List.getElem?_cons_succ, List.getElem?_cons_zero]; rfl) (fun K hK => ?_) AllReadyH.nil
  go_simp
  (go_at_call 15; (with_reducible refine (K4.out _).mono ?_); rintro e w4 ⟨rfl, hb⟩; (first | (with_reducible (obtain ⟨hclw4, hfrw4⟩ := bcell_drew hb)) | (obtain ⟨hclw4, hfrw4⟩ := bcell hb)); have zw4_a : w.heap.size < w4.heap.size := (by first | omega | (have hz := hb.size; (try simp at hz); omega)); have yw4_a : w.heap.size < w4.heap.size + 1 := (by omega); have yyw4_a : w.heap.size < w4.heap.size + 1 + 1 := (by omega); have zw4_b : w.heap.size + 1 < w4.heap.size := (by first | omega | (have hz := hb.size; (try simp at hz); omega)); have yw4_b : w.heap.size + 1 < w4.heap.size + 1 := (by omega); have yyw4_b : w.heap.size + 1 < w4.heap.size + 1 + 1 := (by omega); have zw4_c : w.heap.size + 1 + 1 < w4.heap.size := (by first | omega | (have hz := hb.size; (try simp at hz); omega)); have yw4_c : w.heap.size + 1 + 1 < w4.heap.size + 1 := (by omega); have yyw4_c : w.heap.size + 1 + 1 < w4.heap.size + 1 + 1 := (by omega); (try have sw4_0 : w3.heap.size < w4.heap.size := (by first | omega | (have hz := hb.size; (try simp at hz); omega))); (try have syw4_0 : w3.heap.size < w4.heap.size + 1 := (by omega)); (try have stw4_0 : w3.heap.size + 1 < w4.heap.size := (by first | omega | (have hz := hb.size; (try simp at hz); omega))); have sxw4_0 : w3.heap.size ≤ w4.heap.size := (by first | omega | (have hz := hb.size; (try simp at hz); omega)); have HBw4 : Hid (Below w.heap.size w w4) := (bl_trans (by repeat (first | with_reducible exact Below.refl _ _ | with_reducible exact Hid.out (by assumption) | with_reducible refine Below.setCell ?_ (by first | (simp; done) | omega | (simp <;> omega)) _ | with_reducible refine bl_al ?_ _ | with_reducible apply Below.drew)) hb); clear hb; clear K4)
  try go_wp2_with fail
  refine hK.out _ _ ?_ (fun hHeldN => ?_)
  · (try dsimp only); (first | (simp [*, go_sem]; done) | (simp [*, go_sem, World.cell?_alloc_past]; done))
  clear hK K hHeld; have hHeld := hHeldN; clear hHeldN
  try simp only [Act.put, List.setIfInBounds_toArray, List.set_cons_zero, List.set_cons_succ]
  refine wpAnyH_ready (rs := [5]) (by kernel_rfl) (by simp) ?_
  refine AllReadyH.cons (o := _) (by simp only [List.getElem?_toArray, List.getElem?_cons_succ, List.getElem?_cons_zero]; rfl) (fun K hK => ?_) AllReadyH.nil
  go_simp
  (go_at_call 15; (with_reducible refine (K5.out _).mono ?_); rintro e w5 ⟨rfl, hb⟩; obtain ⟨hclw5, hfrw5⟩ := bcell hb; have zw5_a : w.heap.size < w5.heap.size := (by first | omega | (have hz := hb.size; (try simp at hz); omega)); have yw5_a : w.heap.size < w5.heap.size + 1 := (by omega); have yyw5_a : w.heap.size < w5.heap.size + 1 + 1 := (by omega); have zw5_b : w.heap.size + 1 < w5.heap.size := (by first | omega | (have hz := hb.size; (try simp at hz); omega)); have yw5_b : w.heap.size + 1 < w5.heap.size + 1 := (by omega); have yyw5_b : w.heap.size + 1 < w5.heap.size + 1 + 1 := (by omega); have zw5_c : w.heap.size + 1 + 1 < w5.heap.size := (by first | omega | (have hz := hb.size; (try simp at hz); omega)); have yw5_c : w.heap.size + 1 + 1 < w5.heap.size + 1 := (by omega); have yyw5_c : w.heap.size + 1 + 1 < w5.heap.size + 1 + 1 := (by omega); (try have sw5_0 : w3.heap.size < w5.heap.size := (by first | omega | (have hz := hb.size; (try simp at hz); omega))); (try have syw5_0 : w3.heap.size < w5.heap.size + 1 := (by omega)); (try have stw5_0 : w3.heap.size + 1 < w5.heap.size := (by first | omega | (have hz := hb.size; (try simp at hz); omega))); have sxw5_0 : w3.heap.size ≤ w5.heap.size := (by first | omega | (have hz := hb.size; (try simp at hz); omega)); (try have sw5_w4 : w4.heap.size < w5.heap.size := (by first | omega | (have hz := hb.size; (try simp at hz); omega))); (try have syw5_w4 : w4.heap.size < w5.heap.size + 1 := (by omega)); (try have stw5_w4 : w4.heap.size + 1 < w5.heap.size := (by first | omega | (have hz := hb.size; (try simp at hz); omega))); have sxw5_w4 : w4.heap.size ≤ w5.heap.size := (by first | omega | (have hz := hb.size; (try simp at hz); omega)); have HBw5 : Hid (Below w.heap.size w w5) := (bl_trans (by repeat (first | with_reducible exact Below.refl _ _ | with_reducible exact Hid.out (by assumption) | with_reducible refine Below.setCell ?_ (by first | (simp; done) | omega | (simp <;> omega)) _ | with_reducible refine bl_al ?_ _ | with_reducible apply Below.drew)) hb); clear hb; clear K5)
  try go_wp2_with fail
  refine hK.out _ _ ?_ (fun hHeldN => ?_)
  · (try dsimp only); (first | (simp [*, go_sem]; done) | (simp [*, go_sem, World.cell?_alloc_past]; done))
  clear hK K hHeld; have hHeld := hHeldN; clear hHeldN
  try simp only [Act.put, List.setIfInBounds_toArray, List.set_cons_zero, List.set_cons_succ]
  refine wpAnyH_take (i := 6) (oi := _) (v := ?_) (by simp only [List.getElem?_toArray, List.getElem?_cons_succ, List.getElem?_cons_zero]; rfl) (by kernel_rfl) (by kernel_rfl) (by kernel_rfl) (by exact fun _ _ _ h => h) (Or.inl ⟨by rfl, ?_⟩) (by assumption) ?_
  rotate_left 1
  · (intro w hSw; (try dsimp only at hSw); go_simp; try with_reducible rfl)
  try simp only [Act.put, List.setIfInBounds_toArray, List.set_cons_zero, List.set_cons_succ]
  refine wpAnyH_take (i := 7) (oi := _) (v := ?_) (by simp only [List.getElem?_toArray, List.getElem?_cons_succ, List.getElem?_cons_zero]; rfl) (by kernel_rfl) (by kernel_rfl) (by kernel_rfl) (by exact fun _ _ _ h => h) (Or.inl ⟨by rfl, ?_⟩) (by assumption) ?_
  rotate_left 1
  · (intro w hSw; (try dsimp only at hSw); go_simp; try with_reducible rfl)
  try simp only [Act.put, List.setIfInBounds_toArray, List.set_cons_zero, List.set_cons_succ]
  refine wpAnyH_done (by kernel_rfl) ?_ _
  clear hHeld
  go_upto_region 4 with fail
  refine wp_region_held_drew (S := fun w' => w'.cell? ⟨w.heap.size, 0, none⟩ = some (.int .i64 a1) ∧ w'.cell? ⟨w.heap.size, 1, none⟩ = some (.int .u64 a0) ∧ w'.cell? ⟨w.heap.size + 1, 0, none⟩ = some (.int .i64 b1) ∧ w'.cell? ⟨w.heap.size + 1, 1, none⟩ = some (.int .u64 b0) ∧ w'.cell? ⟨w.heap.size + 1 + 1, 0, none⟩ = some (.int .i64 c1) ∧ w'.cell? ⟨w.heap.size + 1 + 1, 1, none⟩ = some (.int .u64 c0)) (by kernel_rfl) ?_ (fun hHeld => ?_)
  · (try dsimp only); (first | (simp [*, go_sem]; done) | (simp [*, go_sem, World.cell?_alloc_past]; done))
  refine wpAnyH_take (i := 0) (oi := _) (v := ?_) (by simp only [List.getElem?_toArray, List.getElem?_cons_zero]; rfl) (by kernel_rfl) (by kernel_rfl) (by kernel_rfl) (by exact fun _ _ _ h => h) (Or.inl ⟨by rfl, ?_⟩) (by assumption) ?_
  rotate_left 1
  · (intro w hSw; (try dsimp only at hSw); go_simp; try with_reducible rfl)
  try simp only [Act.put, List.setIfInBounds_toArray, List.set_cons_zero, List.set_cons_succ]
  refine wpAnyH_take (i := 1) (oi := _) (v := ?_) (by simp only [List.getElem?_toArray, List.getElem?_cons_succ, List.getElem?_cons_zero]; rfl) (by kernel_rfl) (by kernel_rfl) (by kernel_rfl) (by exact fun _ _ _ h => h) (Or.inl ⟨by rfl, ?_⟩) (by assumption) ?_
  rotate_left 1
  · (intro w hSw; (try dsimp only at hSw); go_simp; try with_reducible rfl)
  try simp only [Act.put, List.setIfInBounds_toArray, List.set_cons_zero, List.set_cons_succ]
  refine wpAnyH_take (i := 2) (oi := _) (v := ?_) (by simp only [List.getElem?_toArray, List.getElem?_cons_succ, List.getElem?_cons_zero]; rfl) (by kernel_rfl) (by kernel_rfl) (by kernel_rfl) (by exact fun _ _ _ h => h) (Or.inl ⟨by rfl, ?_⟩) (by assumption) ?_
  rotate_left 1
  · (intro w hSw; (try dsimp only at hSw); go_simp; try with_reducible rfl)
  try simp only [Act.put, List.setIfInBounds_toArray, List.set_cons_zero, List.set_cons_succ]
  refine wpAnyH_take (i := 3) (oi := _) (v := ?_) (by simp only [List.getElem?_toArray, List.getElem?_cons_succ, List.getElem?_cons_zero]; rfl) (by kernel_rfl) (by kernel_rfl) (by kernel_rfl) (by exact fun _ _ _ h => h) (Or.inl ⟨by rfl, ?_⟩) (by assumption) ?_
  rotate_left 1
  · (intro w hSw; (try dsimp only at hSw); go_simp; try with_reducible rfl)
  try simp only [Act.put, List.setIfInBounds_toArray, List.set_cons_zero, List.set_cons_succ]
  refine wpAnyH_take (i := 4) (oi := _) (v := ?_) (by simp only [List.getElem?_toArray, List.getElem?_cons_succ, List.getElem?_cons_zero]; rfl) (by kernel_rfl) (by kernel_rfl) (by kernel_rfl) (by exact fun _ _ _ h => h) (Or.inl ⟨by rfl, ?_⟩) (by assumption) ?_
  rotate_left 1
  · (intro w hSw; (try dsimp only at hSw); go_simp; try with_reducible rfl)
  try simp only [Act.put, List.setIfInBounds_toArray, List.set_cons_zero, List.set_cons_succ]
  refine wpAnyH_take (i := 5) (oi := _) (v := ?_) (by simp only [List.getElem?_toArray, List.getElem?_cons_succ, List.getElem?_cons_zero]; rfl) (by kernel_rfl) (by kernel_rfl) (by kernel_rfl) (by exact fun _ _ _ h => h) (Or.inl ⟨by rfl, ?_⟩) (by assumption) ?_
  rotate_left 1
  · (intro w hSw; (try dsimp only at hSw); go_simp; try with_reducible rfl)
  try simp only [Act.put, List.setIfInBounds_toArray, List.set_cons_zero, List.set_cons_succ]
  refine wpAnyH_take (i := 6) (oi := _) (v := ?_) (by simp only [List.getElem?_toArray, List.getElem?_cons_succ, List.getElem?_cons_zero]; rfl) (by kernel_rfl) (by kernel_rfl) (by kernel_rfl) (by exact fun _ _ _ h => h) (Or.inl ⟨by rfl, ?_⟩) (by assumption) ?_
  rotate_left 1
  · (intro w hSw; (try dsimp only at hSw); go_simp; try with_reducible rfl)
  try simp only [Act.put, List.setIfInBounds_toArray, List.set_cons_zero, List.set_cons_succ]
  refine wpAnyH_take (i := 7) (oi := _) (v := ?_) (by simp only [List.getElem?_toArray, List.getElem?_cons_succ, List.getElem?_cons_zero]; rfl) (by kernel_rfl) (by kernel_rfl) (by kernel_rfl) (by exact fun _ _ _ h => h) (Or.inl ⟨by rfl, ?_⟩) (by assumption) ?_
  rotate_left 1
  · (intro w hSw; (try dsimp only at hSw); go_simp; try with_reducible rfl)
  try simp only [Act.put, List.setIfInBounds_toArray, List.set_cons_zero, List.set_cons_succ]
  refine wpAnyH_take (i := 8) (oi := _) (v := ?_) (by simp only [List.getElem?_toArray, List.getElem?_cons_succ, List.getElem?_cons_zero]; rfl) (by kernel_rfl) (by kernel_rfl) (by kernel_rfl) (by exact fun _ _ _ h => h) (Or.inl ⟨by rfl, ?_⟩) (by assumption) ?_
  rotate_left 1
  · (intro w hSw; (try dsimp only at hSw); go_simp; try with_reducible rfl)
  try simp only [Act.put, List.setIfInBounds_toArray, List.set_cons_zero, List.set_cons_succ]
  refine wpAnyH_take (i := 9) (oi := _) (v := ?_) (by simp only [List.getElem?_toArray, List.getElem?_cons_succ, List.getElem?_cons_zero]; rfl) (by kernel_rfl) (by kernel_rfl) (by kernel_rfl) (by exact fun _ _ _ h => h) (Or.inl ⟨by rfl, ?_⟩) (by assumption) ?_
  rotate_left 1
  · (intro w hSw; (try dsimp only at hSw); go_simp; try with_reducible rfl)
  try simp only [Act.put, List.setIfInBounds_toArray, List.set_cons_zero, List.set_cons_succ]
  refine wpAnyH_take (i := 10) (oi := _) (v := ?_) (by simp only [List.getElem?_toArray, List.getElem?_cons_succ, List.getElem?_cons_zero]; rfl) (by kernel_rfl) (by kernel_rfl) (by kernel_rfl) (by exact fun _ _ _ h => h) (Or.inl ⟨by rfl, ?_⟩) (by assumption) ?_
  rotate_left 1
  · (intro w hSw; (try dsimp only at hSw); go_simp; try with_reducible rfl)
  try simp only [Act.put, List.setIfInBounds_toArray, List.set_cons_zero, List.set_cons_succ]
  refine wpAnyH_take (i := 11) (oi := _) (v := ?_) (by simp only [List.getElem?_toArray, List.getElem?_cons_succ, List.getElem?_cons_zero]; rfl) (by kernel_rfl) (by kernel_rfl) (by kernel_rfl) (by exact fun _ _ _ h => h) (Or.inl ⟨by rfl, ?_⟩) (by assumption) ?_
  rotate_left 1
  · (intro w hSw; (try dsimp only at hSw); go_simp; try with_reducible rfl)
  try simp only [Act.put, List.setIfInBounds_toArray, List.set_cons_zero, List.set_cons_succ]
  refine wpAnyH_take (i := 12) (oi := _) (v := ?_) (by simp only [List.getElem?_toArray, List.getElem?_cons_succ, List.getElem?_cons_zero]; rfl) (by kernel_rfl) (by kernel_rfl) (by kernel_rfl) (by exact fun _ _ _ h => h) (Or.inl ⟨by rfl, ?_⟩) (by assumption) ?_
  rotate_left 1
  · (intro w hSw; (try dsimp only at hSw); go_simp; try with_reducible rfl)
  try simp only [Act.put, List.setIfInBounds_toArray, List.set_cons_zero, List.set_cons_succ]
  refine wpAnyH_take (i := 13) (oi := _) (v := ?_) (by simp only [List.getElem?_toArray, List.getElem?_cons_succ, List.getElem?_cons_zero]; rfl) (by kernel_rfl) (by kernel_rfl) (by kernel_rfl) (by exact fun _ _ _ h => h) (Or.inl ⟨by rfl, ?_⟩) (by assumption) ?_
  rotate_left 1
  · (intro w hSw; (try dsimp only at hSw); go_simp; try with_reducible rfl)
  try simp only [Act.put, List.setIfInBounds_toArray, List.set_cons_zero, List.set_cons_succ]
  refine wpAnyH_take (i := 14) (oi := _) (v := ?_) (by simp only [List.getElem?_toArray, List.getElem?_cons_succ, List.getElem?_cons_zero]; rfl) (by kernel_rfl) (by kernel_rfl) (by kernel_rfl) (by exact fun _ _ _ h => h) (Or.inl ⟨by rfl, ?_⟩) (by assumption) ?_
  rotate_left 1
  · (intro w hSw; (try dsimp only at hSw); go_simp; try with_reducible rfl)
  try simp only [Act.put, List.setIfInBounds_toArray, List.set_cons_zero, List.set_cons_succ]
  refine wpAnyH_take (i := 15) (oi := _) (v := ?_) (by simp only [List.getElem?_toArray, List.getElem?_cons_succ, List.getElem?_cons_zero]; rfl) (by kernel_rfl) (by kernel_rfl) (by kernel_rfl) (by exact fun _ _ _ h => h) (Or.inl ⟨by rfl, ?_⟩) (by assumption) ?_
  rotate_left 1
  · (intro w hSw; (try dsimp only at hSw); go_simp; try with_reducible rfl)
  try simp only [Act.put, List.setIfInBounds_toArray, List.set_cons_zero, List.set_cons_succ]
  refine wpAnyH_take (i := 16) (oi := _) (v := ?_) (by simp only [List.getElem?_toArray, List.getElem?_cons_succ, List.getElem?_cons_zero]; rfl) (by kernel_rfl) (by kernel_rfl) (by kernel_rfl) (by exact fun _ _ _ h => h) (Or.inl ⟨by rfl, ?_⟩) (by assumption) ?_
  rotate_left 1
  · (intro w hSw; (try dsimp only at hSw); go_simp; try with_reducible rfl)
  try simp only [Act.put, List.setIfInBounds_toArray, List.set_cons_zero, List.set_cons_succ]
  refine wpAnyH_take (i := 17) (oi := _) (v := ?_) (by simp only [List.getElem?_toArray, List.getElem?_cons_succ, List.getElem?_cons_zero]; rfl) (by kernel_rfl) (by kernel_rfl) (by kernel_rfl) (by exact fun _ _ _ h => h) (Or.inl ⟨by rfl, ?_⟩) (by assumption) ?_
  rotate_left 1
  · (intro w hSw; (try dsimp only at hSw); go_simp; try with_reducible rfl)
  try simp only [Act.put, List.setIfInBounds_toArray, List.set_cons_zero, List.set_cons_succ]
  refine wpAnyH_ready (rs := [18]) (by kernel_rfl) (by simp) ?_
  refine AllReadyH.cons (o := _) (by simp only [List.getElem?_toArray, List.getElem?_cons_succ, List.getElem?_cons_zero]; rfl) (fun K hK => ?_) AllReadyH.nil
  go_simp
  (go_at_call 15; (with_reducible refine (K6.out _).mono ?_); rintro e w6 ⟨rfl, hb⟩; (first | (with_reducible (obtain ⟨hclw6, hfrw6⟩ := bcell_drew hb)) | (obtain ⟨hclw6, hfrw6⟩ := bcell hb)); have zw6_a : w.heap.size < w6.heap.size := (by first | omega | (have hz := hb.size; (try simp at hz); omega)); have yw6_a : w.heap.size < w6.heap.size + 1 := (by omega); have yyw6_a : w.heap.size < w6.heap.size + 1 + 1 := (by omega); have zw6_b : w.heap.size + 1 < w6.heap.size := (by first | omega | (have hz := hb.size; (try simp at hz); omega)); have yw6_b : w.heap.size + 1 < w6.heap.size + 1 := (by omega); have yyw6_b : w.heap.size + 1 < w6.heap.size + 1 + 1 := (by omega); have zw6_c : w.heap.size + 1 + 1 < w6.heap.size := (by first | omega | (have hz := hb.size; (try simp at hz); omega)); have yw6_c : w.heap.size + 1 + 1 < w6.heap.size + 1 := (by omega); have yyw6_c : w.heap.size + 1 + 1 < w6.heap.size + 1 + 1 := (by omega); (try have sw6_0 : w5.heap.size < w6.heap.size := (by first | omega | (have hz := hb.size; (try simp at hz); omega))); (try have syw6_0 : w5.heap.size < w6.heap.size + 1 := (by omega)); (try have stw6_0 : w5.heap.size + 1 < w6.heap.size := (by first | omega | (have hz := hb.size; (try simp at hz); omega))); have sxw6_0 : w5.heap.size ≤ w6.heap.size := (by first | omega | (have hz := hb.size; (try simp at hz); omega)); have HBw6 : Hid (Below w.heap.size w w6) := (bl_trans (by repeat (first | with_reducible exact Below.refl _ _ | with_reducible exact Hid.out (by assumption) | with_reducible refine Below.setCell ?_ (by first | (simp; done) | omega | (simp <;> omega)) _ | with_reducible refine bl_al ?_ _ | with_reducible apply Below.drew)) hb); clear hb; clear K6)
  try go_wp2_with fail
  refine hK.out _ _ ?_ (fun hHeldN => ?_)
  · (try dsimp only); (first | (simp [*, go_sem]; done) | (simp [*, go_sem, World.cell?_alloc_past]; done))
  clear hK K hHeld; have hHeld := hHeldN; clear hHeldN
  try simp only [Act.put, List.setIfInBounds_toArray, List.set_cons_zero, List.set_cons_succ]
  refine wpAnyH_take (i := 19) (oi := _) (v := ?_) (by simp only [List.getElem?_toArray, List.getElem?_cons_succ, List.getElem?_cons_zero]; rfl) (by kernel_rfl) (by kernel_rfl) (by kernel_rfl) (by exact fun _ _ _ h => h) (Or.inl ⟨by rfl, ?_⟩) (by assumption) ?_
  rotate_left 1
  · (intro w hSw; (try dsimp only at hSw); go_simp; try with_reducible rfl)
  try simp only [Act.put, List.setIfInBounds_toArray, List.set_cons_zero, List.set_cons_succ]
  refine wpAnyH_take (i := 20) (oi := _) (v := ?_) (by simp only [List.getElem?_toArray, List.getElem?_cons_succ, List.getElem?_cons_zero]; rfl) (by kernel_rfl) (by kernel_rfl) (by kernel_rfl) (by exact fun _ _ _ h => h) (Or.inl ⟨by rfl, ?_⟩) (by assumption) ?_
  rotate_left 1
  · (intro w hSw; (try dsimp only at hSw); go_simp; try with_reducible rfl)
  try simp only [Act.put, List.setIfInBounds_toArray, List.set_cons_zero, List.set_cons_succ]
  refine wpAnyH_take (i := 21) (oi := _) (v := ?_) (by simp only [List.getElem?_toArray, List.getElem?_cons_succ, List.getElem?_cons_zero]; rfl) (by kernel_rfl) (by kernel_rfl) (by kernel_rfl) (by exact fun _ _ _ h => h) (Or.inl ⟨by rfl, ?_⟩) (by assumption) ?_
  rotate_left 1
  · (intro w hSw; (try dsimp only at hSw); go_simp; try with_reducible rfl)
  try simp only [Act.put, List.setIfInBounds_toArray, List.set_cons_zero, List.set_cons_succ]
  refine wpAnyH_take (i := 22) (oi := _) (v := undef) (by simp only [List.getElem?_toArray, List.getElem?_cons_succ, List.getElem?_cons_zero]; rfl) (by kernel_rfl) (by kernel_rfl) (by kernel_rfl) (by exact fun _ _ _ h => h) (Or.inr ⟨by rfl, rfl⟩) (by assumption) ?_
  try simp only [Act.put, List.setIfInBounds_toArray, List.set_cons_zero, List.set_cons_succ]
  refine wpAnyH_take (i := 23) (oi := _) (v := undef) (by simp only [List.getElem?_toArray, List.getElem?_cons_succ, List.getElem?_cons_zero]; rfl) (by kernel_rfl) (by kernel_rfl) (by kernel_rfl) (by exact fun _ _ _ h => h) (Or.inr ⟨by rfl, rfl⟩) (by assumption) ?_
  try simp only [Act.put, List.setIfInBounds_toArray, List.set_cons_zero, List.set_cons_succ]
  refine wpAnyH_ready (rs := [24]) (by kernel_rfl) (by simp) ?_
  refine AllReadyH.cons (o := _) (by simp only [List.getElem?_toArray, List.getElem?_cons_succ, List.getElem?_cons_zero]; rfl) (fun K hK => ?_) AllReadyH.nil
  go_simp
  refine hK.out _ _ ?_ (fun hHeldN => ?_)
  · (try dsimp only); (first | (simp [*, go_sem]; done) | (simp [*, go_sem, World.cell?_alloc_past]; done))
  clear hK K hHeld; have hHeld := hHeldN; clear hHeldN
  try simp only [Act.put, List.setIfInBounds_toArray, List.set_cons_zero, List.set_cons_succ]
  refine wpAnyH_take (i := 25) (oi := _) (v := undef) (by simp only [List.getElem?_toArray, List.getElem?_cons_succ, List.getElem?_cons_zero]; rfl) (by kernel_rfl) (by kernel_rfl) (by kernel_rfl) (by exact fun _ _ _ h => h) (Or.inr ⟨by rfl, rfl⟩) (by assumption) ?_
  try simp only [Act.put, List.setIfInBounds_toArray, List.set_cons_zero, List.set_cons_succ]
  refine wpAnyH_take (i := 26) (oi := _) (v := ?_) (by simp only [List.getElem?_toArray, List.getElem?_cons_succ, List.getElem?_cons_zero]; rfl) (by kernel_rfl) (by kernel_rfl) (by kernel_rfl) (by exact fun _ _ _ h => h) (Or.inl ⟨by rfl, ?_⟩) (by assumption) ?_
  rotate_left 1
  · (intro w hSw; (try dsimp only at hSw); go_simp; try with_reducible rfl)
  try simp only [Act.put, List.setIfInBounds_toArray, List.set_cons_zero, List.set_cons_succ]
  refine wpAnyH_take (i := 27) (oi := _) (v := ?_) (by simp only [List.getElem?_toArray, List.getElem?_cons_succ, List.getElem?_cons_zero]; rfl) (by kernel_rfl) (by kernel_rfl) (by kernel_rfl) (by exact fun _ _ _ h => h) (Or.inl ⟨by rfl, ?_⟩) (by assumption) ?_
  rotate_left 1
  · (intro w hSw; (try dsimp only at hSw); go_simp; try with_reducible rfl)
  try simp only [Act.put, List.setIfInBounds_toArray, List.set_cons_zero, List.set_cons_succ]
  refine wpAnyH_take (i := 28) (oi := _) (v := ?_) (by simp only [List.getElem?_toArray, List.getElem?_cons_succ, List.getElem?_cons_zero]; rfl) (by kernel_rfl) (by kernel_rfl) (by kernel_rfl) (by exact fun _ _ _ h => h) (Or.inl ⟨by rfl, ?_⟩) (by assumption) ?_
  rotate_left 1
  · (intro w hSw; (try dsimp only at hSw); go_simp; try with_reducible rfl)
  try simp only [Act.put, List.setIfInBounds_toArray, List.set_cons_zero, List.set_cons_succ]
  refine wpAnyH_take (i := 29) (oi := _) (v := ?_) (by simp only [List.getElem?_toArray, List.getElem?_cons_succ, List.getElem?_cons_zero]; rfl) (by kernel_rfl) (by kernel_rfl) (by kernel_rfl) (by exact fun _ _ _ h => h) (Or.inl ⟨by rfl, ?_⟩) (by assumption) ?_
  rotate_left 1
  · (intro w hSw; (try dsimp only at hSw); go_simp; try with_reducible rfl)
  try simp only [Act.put, List.setIfInBounds_toArray, List.set_cons_zero, List.set_cons_succ]
  refine wpAnyH_take (i := 31) (oi := _) (v := ?_) (by simp only [List.getElem?_toArray, List.getElem?_cons_succ, List.getElem?_cons_zero]; rfl) (by kernel_rfl) (by kernel_rfl) (by kernel_rfl) (by exact fun _ _ _ h => h) (Or.inl ⟨by rfl, ?_⟩) (by assumption) ?_
  rotate_left 1
  · (intro w hSw; (try dsimp only at hSw); go_simp; try with_reducible rfl)
  try simp only [Act.put, List.setIfInBounds_toArray, List.set_cons_zero, List.set_cons_succ]
  refine wpAnyH_take (i := 34) (oi := _) (v := ?_) (by simp only [List.getElem?_toArray, List.getElem?_cons_succ, List.getElem?_cons_zero]; rfl) (by kernel_rfl) (by kernel_rfl) (by kernel_rfl) (by exact fun _ _ _ h => h) (Or.inl ⟨by rfl, ?_⟩) (by assumption) ?_
  rotate_left 1
  · (intro w hSw; (try dsimp only at hSw); go_simp; try with_reducible rfl)
  try simp only [Act.put, List.setIfInBounds_toArray, List.set_cons_zero, List.set_cons_succ]
  refine wpAnyH_ready (rs := [30]) (by kernel_rfl) (by simp) ?_
  refine AllReadyH.cons (o := _) (by simp only [List.getElem?_toArray, List.getElem?_cons_succ, List.getElem?_cons_zero]; rfl) (fun K hK => ?_) AllReadyH.nil
  go_simp
  (go_at_call 30; (with_reducible refine (K8.out _).mono ?_); rintro e w7 ⟨rfl, hb⟩; obtain ⟨hclw7, hfrw7⟩ := bcell hb; have zw7_a : w.heap.size < w7.heap.size := (by first | omega | (have hz := hb.size; (try simp at hz); omega)); have yw7_a : w.heap.size < w7.heap.size + 1 := (by omega); have yyw7_a : w.heap.size < w7.heap.size + 1 + 1 := (by omega); have zw7_b : w.heap.size + 1 < w7.heap.size := (by first | omega | (have hz := hb.size; (try simp at hz); omega)); have yw7_b : w.heap.size + 1 < w7.heap.size + 1 := (by omega); have yyw7_b : w.heap.size + 1 < w7.heap.size + 1 + 1 := (by omega); have zw7_c : w.heap.size + 1 + 1 < w7.heap.size := (by first | omega | (have hz := hb.size; (try simp at hz); omega)); have yw7_c : w.heap.size + 1 + 1 < w7.heap.size + 1 := (by omega); have yyw7_c : w.heap.size + 1 + 1 < w7.heap.size + 1 + 1 := (by omega); (try have sw7_0 : w5.heap.size < w7.heap.size := (by first | omega | (have hz := hb.size; (try simp at hz); omega))); (try have syw7_0 : w5.heap.size < w7.heap.size + 1 := (by omega)); (try have stw7_0 : w5.heap.size + 1 < w7.heap.size := (by first | omega | (have hz := hb.size; (try simp at hz); omega))); have sxw7_0 : w5.heap.size ≤ w7.heap.size := (by first | omega | (have hz := hb.size; (try simp at hz); omega)); (try have sw7_w6 : w6.heap.size < w7.heap.size := (by first | omega | (have hz := hb.size; (try simp at hz); omega))); (try have syw7_w6 : w6.heap.size < w7.heap.size + 1 := (by omega)); (try have stw7_w6 : w6.heap.size + 1 < w7.heap.size := (by first | omega | (have hz := hb.size; (try simp at hz); omega))); have sxw7_w6 : w6.heap.size ≤ w7.heap.size := (by first | omega | (have hz := hb.size; (try simp at hz); omega)); have HBw7 : Hid (Below w.heap.size w w7) := (bl_trans (by repeat (first | with_reducible exact Below.refl _ _ | with_reducible exact Hid.out (by assumption) | with_reducible refine Below.setCell ?_ (by first | (simp; done) | omega | (simp <;> omega)) _ | with_reducible refine bl_al ?_ _ | with_reducible apply Below.drew)) hb); clear hb; clear K8)
  try go_wp2_with fail
  refine hK.out _ _ ?_ (fun hHeldN => ?_)
  · (try dsimp only); (first | (simp [*, go_sem]; done) | (simp [*, go_sem, World.cell?_alloc_past]; done))
  clear hK K hHeld; have hHeld := hHeldN; clear hHeldN
  try simp only [Act.put, List.setIfInBounds_toArray, List.set_cons_zero, List.set_cons_succ]
  refine wpAnyH_ready (rs := [32]) (by kernel_rfl) (by simp) ?_
  refine AllReadyH.cons (o := _) (by simp only [List.getElem?_toArray, List.getElem?_cons_succ, List.getElem?_cons_zero]; rfl) (fun K hK => ?_) AllReadyH.nil
  go_simp
  (go_at_call 30; (with_reducible refine (K9.out _).mono ?_); rintro e w8 ⟨rfl, hb⟩; obtain ⟨hclw8, hfrw8⟩ := bcell hb; have zw8_a : w.heap.size < w8.heap.size := (by first | omega | (have hz := hb.size; (try simp at hz); omega)); have yw8_a : w.heap.size < w8.heap.size + 1 := (by omega); have yyw8_a : w.heap.size < w8.heap.size + 1 + 1 := (by omega); have zw8_b : w.heap.size + 1 < w8.heap.size := (by first | omega | (have hz := hb.size; (try simp at hz); omega)); have yw8_b : w.heap.size + 1 < w8.heap.size + 1 := (by omega); have yyw8_b : w.heap.size + 1 < w8.heap.size + 1 + 1 := (by omega); have zw8_c : w.heap.size + 1 + 1 < w8.heap.size := (by first | omega | (have hz := hb.size; (try simp at hz); omega)); have yw8_c : w.heap.size + 1 + 1 < w8.heap.size + 1 := (by omega); have yyw8_c : w.heap.size + 1 + 1 < w8.heap.size + 1 + 1 := (by omega); (try have sw8_0 : w5.heap.size < w8.heap.size := (by first | omega | (have hz := hb.size; (try simp at hz); omega))); (try have syw8_0 : w5.heap.size < w8.heap.size + 1 := (by omega)); (try have stw8_0 : w5.heap.size + 1 < w8.heap.size := (by first | omega | (have hz := hb.size; (try simp at hz); omega))); have sxw8_0 : w5.heap.size ≤ w8.heap.size := (by first | omega | (have hz := hb.size; (try simp at hz); omega)); (try have sw8_w6 : w6.heap.size < w8.heap.size := (by first | omega | (have hz := hb.size; (try simp at hz); omega))); (try have syw8_w6 : w6.heap.size < w8.heap.size + 1 := (by omega)); (try have stw8_w6 : w6.heap.size + 1 < w8.heap.size := (by first | omega | (have hz := hb.size; (try simp at hz); omega))); have sxw8_w6 : w6.heap.size ≤ w8.heap.size := (by first | omega | (have hz := hb.size; (try simp at hz); omega)); (try have sw8_w7 : w7.heap.size < w8.heap.size := (by first | omega | (have hz := hb.size; (try simp at hz); omega))); (try have syw8_w7 : w7.heap.size < w8.heap.size + 1 := (by omega)); (try have stw8_w7 : w7.heap.size + 1 < w8.heap.size := (by first | omega | (have hz := hb.size; (try simp at hz); omega))); have sxw8_w7 : w7.heap.size ≤ w8.heap.size := (by first | omega | (have hz := hb.size; (try simp at hz); omega)); have HBw8 : Hid (Below w.heap.size w w8) := (bl_trans (by repeat (first | with_reducible exact Below.refl _ _ | with_reducible exact Hid.out (by assumption) | with_reducible refine Below.setCell ?_ (by first | (simp; done) | omega | (simp <;> omega)) _ | with_reducible refine bl_al ?_ _ | with_reducible apply Below.drew)) hb); clear hb; clear K9)
  try go_wp2_with fail
  refine hK.out _ _ ?_ (fun hHeldN => ?_)
  · (try dsimp only); (first | (simp [*, go_sem]; done) | (simp [*, go_sem, World.cell?_alloc_past]; done))
  clear hK K hHeld; have hHeld := hHeldN; clear hHeldN
  try simp only [Act.put, List.setIfInBounds_toArray, List.set_cons_zero, List.set_cons_succ]
  refine wpAnyH_ready (rs := [33]) (by kernel_rfl) (by simp) ?_
  refine AllReadyH.cons (o := _) (by simp only [List.getElem?_toArray, List.getElem?_cons_succ, List.getElem?_cons_zero]; rfl) (fun K hK => ?_) AllReadyH.nil
  go_simp
  (go_at_call 15; (with_reducible refine (K10.out _).mono ?_); rintro e w9 ⟨rfl, hb⟩; obtain ⟨hclw9, hfrw9⟩ := bcell hb; have zw9_a : w.heap.size < w9.heap.size := (by first | omega | (have hz := hb.size; (try simp at hz); omega)); have yw9_a : w.heap.size < w9.heap.size + 1 := (by omega); have yyw9_a : w.heap.size < w9.heap.size + 1 + 1 := (by omega); have zw9_b : w.heap.size + 1 < w9.heap.size := (by first | omega | (have hz := hb.size; (try simp at hz); omega)); have yw9_b : w.heap.size + 1 < w9.heap.size + 1 := (by omega); have yyw9_b : w.heap.size + 1 < w9.heap.size + 1 + 1 := (by omega); have zw9_c : w.heap.size + 1 + 1 < w9.heap.size := (by first | omega | (have hz := hb.size; (try simp at hz); omega)); have yw9_c : w.heap.size + 1 + 1 < w9.heap.size + 1 := (by omega); have yyw9_c : w.heap.size + 1 + 1 < w9.heap.size + 1 + 1 := (by omega); (try have sw9_0 : w5.heap.size < w9.heap.size := (by first | omega | (have hz := hb.size; (try simp at hz); omega))); (try have syw9_0 : w5.heap.size < w9.heap.size + 1 := (by omega)); (try have stw9_0 : w5.heap.size + 1 < w9.heap.size := (by first | omega | (have hz := hb.size; (try simp at hz); omega))); have sxw9_0 : w5.heap.size ≤ w9.heap.size := (by first | omega | (have hz := hb.size; (try simp at hz); omega)); (try have sw9_w6 : w6.heap.size < w9.heap.size := (by first | omega | (have hz := hb.size; (try simp at hz); omega))); (try have syw9_w6 : w6.heap.size < w9.heap.size + 1 := (by omega)); (try have stw9_w6 : w6.heap.size + 1 < w9.heap.size := (by first | omega | (have hz := hb.size; (try simp at hz); omega))); have sxw9_w6 : w6.heap.size ≤ w9.heap.size := (by first | omega | (have hz := hb.size; (try simp at hz); omega)); (try have sw9_w7 : w7.heap.size < w9.heap.size := (by first | omega | (have hz := hb.size; (try simp at hz); omega))); (try have syw9_w7 : w7.heap.size < w9.heap.size + 1 := (by omega)); (try have stw9_w7 : w7.heap.size + 1 < w9.heap.size := (by first | omega | (have hz := hb.size; (try simp at hz); omega))); have sxw9_w7 : w7.heap.size ≤ w9.heap.size := (by first | omega | (have hz := hb.size; (try simp at hz); omega)); (try have sw9_w8 : w8.heap.size < w9.heap.size := (by first | omega | (have hz := hb.size; (try simp at hz); omega))); (try have syw9_w8 : w8.heap.size < w9.heap.size + 1 := (by omega)); (try have stw9_w8 : w8.heap.size + 1 < w9.heap.size := (by first | omega | (have hz := hb.size; (try simp at hz); omega))); have sxw9_w8 : w8.heap.size ≤ w9.heap.size := (by first | omega | (have hz := hb.size; (try simp at hz); omega)); have HBw9 : Hid (Below w.heap.size w w9) := (bl_trans (by repeat (first | with_reducible exact Below.refl _ _ | with_reducible exact Hid.out (by assumption) | with_reducible refine Below.setCell ?_ (by first | (simp; done) | omega | (simp <;> omega)) _ | with_reducible refine bl_al ?_ _ | with_reducible apply Below.drew)) hb); clear hb; clear K10)
  try go_wp2_with fail
  refine hK.out _ _ ?_ (fun hHeldN => ?_)
  · (try dsimp only); (first | (simp [*, go_sem]; done) | (simp [*, go_sem, World.cell?_alloc_past]; done))
  clear hK K hHeld; have hHeld := hHeldN; clear hHeldN
  try simp only [Act.put, List.setIfInBounds_toArray, List.set_cons_zero, List.set_cons_succ]
  refine wpAnyH_take (i := 35) (oi := _) (v := ?_) (by simp only [List.getElem?_toArray, List.getElem?_cons_succ, List.getElem?_cons_zero]; rfl) (by kernel_rfl) (by kernel_rfl) (by kernel_rfl) (by exact fun _ _ _ h => h) (Or.inl ⟨by rfl, ?_⟩) (by assumption) ?_
  rotate_left 1
  · (intro w hSw; (try dsimp only at hSw); go_simp; try with_reducible rfl)
  try simp only [Act.put, List.setIfInBounds_toArray, List.set_cons_zero, List.set_cons_succ]
  refine wpAnyH_take (i := 36) (oi := _) (v := ?_) (by simp only [List.getElem?_toArray, List.getElem?_cons_succ, List.getElem?_cons_zero]; rfl) (by kernel_rfl) (by kernel_rfl) (by kernel_rfl) (by exact fun _ _ _ h => h) (Or.inl ⟨by rfl, ?_⟩) (by assumption) ?_
  rotate_left 1
  · (intro w hSw; (try dsimp only at hSw); go_simp; try with_reducible rfl)
  try simp only [Act.put, List.setIfInBounds_toArray, List.set_cons_zero, List.set_cons_succ]
  refine wpAnyH_take (i := 37) (oi := _) (v := ?_) (by simp only [List.getElem?_toArray, List.getElem?_cons_succ, List.getElem?_cons_zero]; rfl) (by kernel_rfl) (by kernel_rfl) (by kernel_rfl) (by exact fun _ _ _ h => h) (Or.inl ⟨by rfl, ?_⟩) (by assumption) ?_
  rotate_left 1
  · (intro w hSw; (try dsimp only at hSw); go_simp; try with_reducible rfl)
  try simp only [Act.put, List.setIfInBounds_toArray, List.set_cons_zero, List.set_cons_succ]
  refine wpAnyH_ready (rs := [38]) (by kernel_rfl) (by simp) ?_
  refine AllReadyH.cons (o := _) (by simp only [List.getElem?_toArray, List.getElem?_cons_succ, List.getElem?_cons_zero]; rfl) (fun K hK => ?_) AllReadyH.nil
  go_simp
  (go_at_call 17; (with_reducible refine (K11.out _).mono ?_); rintro e w10 ⟨rfl, hb⟩; obtain ⟨hclw10, hfrw10⟩ := bcell hb; have zw10_a : w.heap.size < w10.heap.size := (by first | omega | (have hz := hb.size; (try simp at hz); omega)); have yw10_a : w.heap.size < w10.heap.size + 1 := (by omega); have yyw10_a : w.heap.size < w10.heap.size + 1 + 1 := (by omega); have zw10_b : w.heap.size + 1 < w10.heap.size := (by first | omega | (have hz := hb.size; (try simp at hz); omega)); have yw10_b : w.heap.size + 1 < w10.heap.size + 1 := (by omega); have yyw10_b : w.heap.size + 1 < w10.heap.size + 1 + 1 := (by omega); have zw10_c : w.heap.size + 1 + 1 < w10.heap.size := (by first | omega | (have hz := hb.size; (try simp at hz); omega)); have yw10_c : w.heap.size + 1 + 1 < w10.heap.size + 1 := (by omega); have yyw10_c : w.heap.size + 1 + 1 < w10.heap.size + 1 + 1 := (by omega); (try have sw10_0 : w5.heap.size < w10.heap.size := (by first | omega | (have hz := hb.size; (try simp at hz); omega))); (try have syw10_0 : w5.heap.size < w10.heap.size + 1 := (by omega)); (try have stw10_0 : w5.heap.size + 1 < w10.heap.size := (by first | omega | (have hz := hb.size; (try simp at hz); omega))); have sxw10_0 : w5.heap.size ≤ w10.heap.size := (by first | omega | (have hz := hb.size; (try simp at hz); omega)); (try have sw10_w6 : w6.heap.size < w10.heap.size := (by first | omega | (have hz := hb.size; (try simp at hz); omega))); (try have syw10_w6 : w6.heap.size < w10.heap.size + 1 := (by omega)); (try have stw10_w6 : w6.heap.size + 1 < w10.heap.size := (by first | omega | (have hz := hb.size; (try simp at hz); omega))); have sxw10_w6 : w6.heap.size ≤ w10.heap.size := (by first | omega | (have hz := hb.size; (try simp at hz); omega)); (try have sw10_w7 : w7.heap.size < w10.heap.size := (by first | omega | (have hz := hb.size; (try simp at hz); omega))); (try have syw10_w7 : w7.heap.size < w10.heap.size + 1 := (by omega)); (try have stw10_w7 : w7.heap.size + 1 < w10.heap.size := (by first | omega | (have hz := hb.size; (try simp at hz); omega))); have sxw10_w7 : w7.heap.size ≤ w10.heap.size := (by first | omega | (have hz := hb.size; (try simp at hz); omega)); (try have sw10_w8 : w8.heap.size < w10.heap.size := (by first | omega | (have hz := hb.size; (try simp at hz); omega))); (try have syw10_w8 : w8.heap.size < w10.heap.size + 1 := (by omega)); (try have stw10_w8 : w8.heap.size + 1 < w10.heap.size := (by first | omega | (have hz := hb.size; (try simp at hz); omega))); have sxw10_w8 : w8.heap.size ≤ w10.heap.size := (by first | omega | (have hz := hb.size; (try simp at hz); omega)); (try have sw10_w9 : w9.heap.size < w10.heap.size := (by first | omega | (have hz := hb.size; (try simp at hz); omega))); (try have syw10_w9 : w9.heap.size < w10.heap.size + 1 := (by omega)); (try have stw10_w9 : w9.heap.size + 1 < w10.heap.size := (by first | omega | (have hz := hb.size; (try simp at hz); omega))); have sxw10_w9 : w9.heap.size ≤ w10.heap.size := (by first | omega | (have hz := hb.size; (try simp at hz); omega)); have HBw10 : Hid (Below w.heap.size w w10) := (bl_trans (by repeat (first | with_reducible exact Below.refl _ _ | with_reducible exact Hid.out (by assumption) | with_reducible refine Below.setCell ?_ (by first | (simp; done) | omega | (simp <;> omega)) _ | with_reducible refine bl_al ?_ _ | with_reducible apply Below.drew)) hb); clear hb; clear K11)
  try go_wp2_with fail
  refine hK.out _ _ ?_ (fun hHeldN => ?_)
  · (try dsimp only); (first | (simp [*, go_sem]; done) | (simp [*, go_sem, World.cell?_alloc_past]; done))
  clear hK K hHeld; have hHeld := hHeldN; clear hHeldN
  try simp only [Act.put, List.setIfInBounds_toArray, List.set_cons_zero, List.set_cons_succ]
  refine wpAnyH_take (i := 39) (oi := _) (v := ?_) (by simp only [List.getElem?_toArray, List.getElem?_cons_succ, List.getElem?_cons_zero]; rfl) (by kernel_rfl) (by kernel_rfl) (by kernel_rfl) (by exact fun _ _ _ h => h) (Or.inl ⟨by rfl, ?_⟩) (by assumption) ?_
  rotate_left 1
  · (intro w hSw; (try dsimp only at hSw); go_simp; try with_reducible rfl)
  try simp only [Act.put, List.setIfInBounds_toArray, List.set_cons_zero, List.set_cons_succ]
  refine wpAnyH_take (i := 40) (oi := _) (v := ?_) (by simp only [List.getElem?_toArray, List.getElem?_cons_succ, List.getElem?_cons_zero]; rfl) (by kernel_rfl) (by kernel_rfl) (by kernel_rfl) (by exact fun _ _ _ h => h) (Or.inl ⟨by rfl, ?_⟩) (by assumption) ?_
  rotate_left 1
  · (intro w hSw; (try dsimp only at hSw); go_simp; try with_reducible rfl)
  try simp only [Act.put, List.setIfInBounds_toArray, List.set_cons_zero, List.set_cons_succ]
  refine wpAnyH_done (by kernel_rfl) ?_ _
  clear hHeld
  go_wp2_with fail
  go_returns
  exact ⟨rfl, by repeat (first | with_reducible exact Below.refl _ _ | with_reducible exact Hid.out (by assumption) | with_reducible refine Below.setCell ?_ (by first | (simp; done) | omega | (simp <;> omega)) _ | with_reducible refine bl_al ?_ _ | with_reducible apply Below.drew)⟩
set_option maxRecDepth 20000 in
set_option maxHeartbeats 4000000 in
theorem fixOrder_v (a1 a0 b1 b0 c1 c0 x y u v m1 m0 n1 n0 : Int) (d : Bool) (hy : IntKind.i64.wrap (-y) = x) (q : ∀ W, (Go.binOp .eql 24 (.agg #[.int .i64 a1, .int .u64 a0]) (.agg #[.int .i64 b1, .int .u64 b0])).run Try.prog W = .ok (.bool d) W) (hd : (x == 0) = d) (hx : ¬ 0 < x) (hu : ¬ 0 < u) (hv : v ≤ 0) (w : World)
    (C1 : ∀ W, Calls Try.prog 14 #[.agg #[.int .i64 a1, .int .u64 a0]] W fun e w' => e = .returned (.bool true) ∧ Below W.heap.size W w')
    (C2 : ∀ W, Calls Try.prog 14 #[.agg #[.int .i64 b1, .int .u64 b0]] W fun e w' => e = .returned (.bool true) ∧ Below W.heap.size W w')
    (C3 : ∀ W, Calls Try.prog 14 #[.agg #[.int .i64 c1, .int .u64 c0]] W fun e w' => e = .returned (.bool true) ∧ Below W.heap.size W w')
    (C4 : ∀ W, Calls Try.prog 15 #[.agg #[.int .i64 a1, .int .u64 a0], .agg #[.int .i64 b1, .int .u64 b0]] W fun e w' => e = .returned (.int .i64 x) ∧ Below W.heap.size W w')
    (C5 : ∀ W, Calls Try.prog 15 #[.agg #[.int .i64 b1, .int .u64 b0], .agg #[.int .i64 a1, .int .u64 a0]] W fun e w' => e = .returned (.int .i64 y) ∧ Below W.heap.size W w')
    (C6 : ∀ W, Calls Try.prog 15 #[.agg #[.int .i64 b1, .int .u64 b0], .agg #[.int .i64 c1, .int .u64 c0]] W fun e w' => e = .returned (.int .i64 u) ∧ Below W.heap.size W w')
    (C7 : ∀ W, Calls Try.prog 15 #[.agg #[.int .i64 a1, .int .u64 a0], .agg #[.int .i64 c1, .int .u64 c0]] W fun e w' => e = .returned (.int .i64 v) ∧ Below W.heap.size W w')
    (C8 : ∀ W, Calls Try.prog 30 #[.agg #[.int .i64 a1, .int .u64 a0]] W fun e w' => e = .returned (.agg #[.int .i64 m1, .int .u64 m0]) ∧ Below W.heap.size W w')
    (C9 : ∀ W, Calls Try.prog 30 #[.agg #[.int .i64 b1, .int .u64 b0]] W fun e w' => e = .returned (.agg #[.int .i64 n1, .int .u64 n0]) ∧ Below W.heap.size W w')
    (C10 : ∀ W, Calls Try.prog 15 #[.agg #[.int .i64 m1, .int .u64 m0], .agg #[.int .i64 n1, .int .u64 n0]] W fun e w' => e = .returned (.int .i64 y) ∧ Below W.heap.size W w')
    (C11 : ∀ W, Calls Try.prog 17 #[] W fun e w' => e = .returned (.bool true) ∧ Below W.heap.size W w') :
    Calls Try.prog 10 #[.agg #[.int .i64 a1, .int .u64 a0], .agg #[.int .i64 b1, .int .u64 b0], .agg #[.int .i64 c1, .int .u64 c0]] w fun e w' => e = .returned (.bool true) ∧ Below w.heap.size w w' := by
  have K1 := Lib.hid C1; have K2 := Lib.hid C2; have K3 := Lib.hid C3; have K4 := Lib.hid C4; have K5 := Lib.hid C5; have K6 := Lib.hid C6; have K7 := Lib.hid C7; have K8 := Lib.hid C8; have K9 := Lib.hid C9; have K10 := Lib.hid C10; have K11 := Lib.hid C11
  clear C1 C2 C3 C4 C5 C6 C7 C8 C9 C10 C11
  have dx : decide (x > 0) = false := by simp; omega
  have du : decide (u > 0) = false := by simp; omega
  have dv : decide (v ≤ 0) = true := by simp; omega
  clear hx hu hv
  go_enter Try.func10, Try.ntmps10
  go_wp2_with fail
  (with_reducible refine (K1.out _).mono ?_); rintro e w1 ⟨rfl, hb⟩; obtain ⟨hclw1, hfrw1⟩ := bcell hb; have zw1_a : w.heap.size < w1.heap.size := (by first | omega | (have hz := hb.size; (try simp at hz); omega)); have yw1_a : w.heap.size < w1.heap.size + 1 := (by omega); have yyw1_a : w.heap.size < w1.heap.size + 1 + 1 := (by omega); have zw1_b : w.heap.size + 1 < w1.heap.size := (by first | omega | (have hz := hb.size; (try simp at hz); omega)); have yw1_b : w.heap.size + 1 < w1.heap.size + 1 := (by omega); have yyw1_b : w.heap.size + 1 < w1.heap.size + 1 + 1 := (by omega); have zw1_c : w.heap.size + 1 + 1 < w1.heap.size := (by first | omega | (have hz := hb.size; (try simp at hz); omega)); have yw1_c : w.heap.size + 1 + 1 < w1.heap.size + 1 := (by omega); have yyw1_c : w.heap.size + 1 + 1 < w1.heap.size + 1 + 1 := (by omega); (try have sw1_0 : w.heap.size + 1 + 1 + 1 < w1.heap.size := (by first | omega | (have hz := hb.size; (try simp at hz); omega))); (try have syw1_0 : w.heap.size + 1 + 1 + 1 < w1.heap.size + 1 := (by omega)); (try have stw1_0 : w.heap.size + 1 + 1 + 1 + 1 < w1.heap.size := (by first | omega | (have hz := hb.size; (try simp at hz); omega))); have sxw1_0 : w.heap.size + 1 + 1 + 1 ≤ w1.heap.size := (by first | omega | (have hz := hb.size; (try simp at hz); omega)); have HBw1 : Hid (Below w.heap.size w w1) := (bl_trans (by repeat (first | with_reducible exact Below.refl _ _ | with_reducible exact Hid.out (by assumption) | with_reducible refine Below.setCell ?_ (by first | (simp; done) | omega | (simp <;> omega)) _ | with_reducible refine bl_al ?_ _ | with_reducible apply Below.drew)) hb); clear hb
  go_wp2_with fail
  (with_reducible refine (K2.out _).mono ?_); rintro e w2 ⟨rfl, hb⟩; obtain ⟨hclw2, hfrw2⟩ := bcell hb; have zw2_a : w.heap.size < w2.heap.size := (by first | omega | (have hz := hb.size; (try simp at hz); omega)); have yw2_a : w.heap.size < w2.heap.size + 1 := (by omega); have yyw2_a : w.heap.size < w2.heap.size + 1 + 1 := (by omega); have zw2_b : w.heap.size + 1 < w2.heap.size := (by first | omega | (have hz := hb.size; (try simp at hz); omega)); have yw2_b : w.heap.size + 1 < w2.heap.size + 1 := (by omega); have yyw2_b : w.heap.size + 1 < w2.heap.size + 1 + 1 := (by omega); have zw2_c : w.heap.size + 1 + 1 < w2.heap.size := (by first | omega | (have hz := hb.size; (try simp at hz); omega)); have yw2_c : w.heap.size + 1 + 1 < w2.heap.size + 1 := (by omega); have yyw2_c : w.heap.size + 1 + 1 < w2.heap.size + 1 + 1 := (by omega); (try have sw2_0 : w1.heap.size < w2.heap.size := (by first | omega | (have hz := hb.size; (try simp at hz); omega))); (try have syw2_0 : w1.heap.size < w2.heap.size + 1 := (by omega)); (try have stw2_0 : w1.heap.size + 1 < w2.heap.size := (by first | omega | (have hz := hb.size; (try simp at hz); omega))); have sxw2_0 : w1.heap.size ≤ w2.heap.size := (by first | omega | (have hz := hb.size; (try simp at hz); omega)); have HBw2 : Hid (Below w.heap.size w w2) := (bl_trans (by repeat (first | with_reducible exact Below.refl _ _ | with_reducible exact Hid.out (by assumption) | with_reducible refine Below.setCell ?_ (by first | (simp; done) | omega | (simp <;> omega)) _ | with_reducible refine bl_al ?_ _ | with_reducible apply Below.drew)) hb); clear hb
  go_wp2_with fail
  (with_reducible refine (K3.out _).mono ?_); rintro e w3 ⟨rfl, hb⟩; obtain ⟨hclw3, hfrw3⟩ := bcell hb; have zw3_a : w.heap.size < w3.heap.size := (by first | omega | (have hz := hb.size; (try simp at hz); omega)); have yw3_a : w.heap.size < w3.heap.size + 1 := (by omega); have yyw3_a : w.heap.size < w3.heap.size + 1 + 1 := (by omega); have zw3_b : w.heap.size + 1 < w3.heap.size := (by first | omega | (have hz := hb.size; (try simp at hz); omega)); have yw3_b : w.heap.size + 1 < w3.heap.size + 1 := (by omega); have yyw3_b : w.heap.size + 1 < w3.heap.size + 1 + 1 := (by omega); have zw3_c : w.heap.size + 1 + 1 < w3.heap.size := (by first | omega | (have hz := hb.size; (try simp at hz); omega)); have yw3_c : w.heap.size + 1 + 1 < w3.heap.size + 1 := (by omega); have yyw3_c : w.heap.size + 1 + 1 < w3.heap.size + 1 + 1 := (by omega); (try have sw3_0 : w2.heap.size < w3.heap.size := (by first | omega | (have hz := hb.size; (try simp at hz); omega))); (try have syw3_0 : w2.heap.size < w3.heap.size + 1 := (by omega)); (try have stw3_0 : w2.heap.size + 1 < w3.heap.size := (by first | omega | (have hz := hb.size; (try simp at hz); omega))); have sxw3_0 : w2.heap.size ≤ w3.heap.size := (by first | omega | (have hz := hb.size; (try simp at hz); omega)); have HBw3 : Hid (Below w.heap.size w w3) := (bl_trans (by repeat (first | with_reducible exact Below.refl _ _ | with_reducible exact Hid.out (by assumption) | with_reducible refine Below.setCell ?_ (by first | (simp; done) | omega | (simp <;> omega)) _ | with_reducible refine bl_al ?_ _ | with_reducible apply Below.drew)) hb); clear hb
  go_upto_region 3 with fail
  refine wp_region_held_drew (S := fun w' => w'.cell? ⟨w.heap.size, 0, none⟩ = some (.int .i64 a1) ∧ w'.cell? ⟨w.heap.size, 1, none⟩ = some (.int .u64 a0) ∧ w'.cell? ⟨w.heap.size + 1, 0, none⟩ = some (.int .i64 b1) ∧ w'.cell? ⟨w.heap.size + 1, 1, none⟩ = some (.int .u64 b0)) (by kernel_rfl) ?_ (fun hHeld => ?_)
  · (try dsimp only); (first | (simp [*, go_sem]; done) | (simp [*, go_sem, World.cell?_alloc_past]; done))
  refine wpAnyH_take (i := 0) (oi := _) (v := ?_) (by simp only [List.getElem?_toArray, List.getElem?_cons_zero]; rfl) (by kernel_rfl) (by kernel_rfl) (by kernel_rfl) (by exact fun _ _ _ h => h) (Or.inl ⟨by rfl, ?_⟩) (by assumption) ?_
  rotate_left 1
  · (intro w hSw; (try dsimp only at hSw); go_simp; try with_reducible rfl)
  try simp only [Act.put, List.setIfInBounds_toArray, List.set_cons_zero, List.set_cons_succ]
  refine wpAnyH_take (i := 1) (oi := _) (v := ?_) (by simp only [List.getElem?_toArray, List.getElem?_cons_succ, List.getElem?_cons_zero]; rfl) (by kernel_rfl) (by kernel_rfl) (by kernel_rfl) (by exact fun _ _ _ h => h) (Or.inl ⟨by rfl, ?_⟩) (by assumption) ?_
  rotate_left 1
  · (intro w hSw; (try dsimp only at hSw); go_simp; try with_reducible rfl)
  try simp only [Act.put, List.setIfInBounds_toArray, List.set_cons_zero, List.set_cons_succ]
  refine wpAnyH_take (i := 3) (oi := _) (v := ?_) (by simp only [List.getElem?_toArray, List.getElem?_cons_succ, List.getElem?_cons_zero]; rfl) (by kernel_rfl) (by kernel_rfl) (by kernel_rfl) (by exact fun _ _ _ h => h) (Or.inl ⟨by rfl, ?_⟩) (by assumption) ?_
  rotate_left 1
  · (intro w hSw; (try dsimp only at hSw); go_simp; try with_reducible rfl)
  try simp only [Act.put, List.setIfInBounds_toArray, List.set_cons_zero, List.set_cons_succ]
  refine wpAnyH_take (i := 4) (oi := _) (v := ?_) (by simp only [List.getElem?_toArray, List.getElem?_cons_succ, List.getElem?_cons_zero]; rfl) (by kernel_rfl) (by kernel_rfl) (by kernel_rfl) (by exact fun _ _ _ h => h) (Or.inl ⟨by rfl, ?_⟩) (by assumption) ?_
  rotate_left 1
  · (intro w hSw; (try dsimp only at hSw); go_simp; try with_reducible rfl)
  try simp only [Act.put, List.setIfInBounds_toArray, List.set_cons_zero, List.set_cons_succ]
  refine wpAnyH_ready (rs := [2]) (by kernel_rfl) (by simp) ?_
  refine AllReadyH.cons (o := _) (by simp only [List.getElem?_toArray, List.getElem?_cons_succ, List.getElem?_cons_zero]; rfl) (fun K hK => ?_) AllReadyH.nil
  go_simp
  (go_at_call 15; (with_reducible refine (K4.out _).mono ?_); rintro e w4 ⟨rfl, hb⟩; (first | (with_reducible (obtain ⟨hclw4, hfrw4⟩ := bcell_drew hb)) | (obtain ⟨hclw4, hfrw4⟩ := bcell hb)); have zw4_a : w.heap.size < w4.heap.size := (by first | omega | (have hz := hb.size; (try simp at hz); omega)); have yw4_a : w.heap.size < w4.heap.size + 1 := (by omega); have yyw4_a : w.heap.size < w4.heap.size + 1 + 1 := (by omega); have zw4_b : w.heap.size + 1 < w4.heap.size := (by first | omega | (have hz := hb.size; (try simp at hz); omega)); have yw4_b : w.heap.size + 1 < w4.heap.size + 1 := (by omega); have yyw4_b : w.heap.size + 1 < w4.heap.size + 1 + 1 := (by omega); have zw4_c : w.heap.size + 1 + 1 < w4.heap.size := (by first | omega | (have hz := hb.size; (try simp at hz); omega)); have yw4_c : w.heap.size + 1 + 1 < w4.heap.size + 1 := (by omega); have yyw4_c : w.heap.size + 1 + 1 < w4.heap.size + 1 + 1 := (by omega); (try have sw4_0 : w3.heap.size < w4.heap.size := (by first | omega | (have hz := hb.size; (try simp at hz); omega))); (try have syw4_0 : w3.heap.size < w4.heap.size + 1 := (by omega)); (try have stw4_0 : w3.heap.size + 1 < w4.heap.size := (by first | omega | (have hz := hb.size; (try simp at hz); omega))); have sxw4_0 : w3.heap.size ≤ w4.heap.size := (by first | omega | (have hz := hb.size; (try simp at hz); omega)); have HBw4 : Hid (Below w.heap.size w w4) := (bl_trans (by repeat (first | with_reducible exact Below.refl _ _ | with_reducible exact Hid.out (by assumption) | with_reducible refine Below.setCell ?_ (by first | (simp; done) | omega | (simp <;> omega)) _ | with_reducible refine bl_al ?_ _ | with_reducible apply Below.drew)) hb); clear hb; clear K4)
  try go_wp2_with fail
  refine hK.out _ _ ?_ (fun hHeldN => ?_)
  · (try dsimp only); (first | (simp [*, go_sem]; done) | (simp [*, go_sem, World.cell?_alloc_past]; done))
  clear hK K hHeld; have hHeld := hHeldN; clear hHeldN
  try simp only [Act.put, List.setIfInBounds_toArray, List.set_cons_zero, List.set_cons_succ]
  refine wpAnyH_ready (rs := [5]) (by kernel_rfl) (by simp) ?_
  refine AllReadyH.cons (o := _) (by simp only [List.getElem?_toArray, List.getElem?_cons_succ, List.getElem?_cons_zero]; rfl) (fun K hK => ?_) AllReadyH.nil
  go_simp
  (go_at_call 15; (with_reducible refine (K5.out _).mono ?_); rintro e w5 ⟨rfl, hb⟩; obtain ⟨hclw5, hfrw5⟩ := bcell hb; have zw5_a : w.heap.size < w5.heap.size := (by first | omega | (have hz := hb.size; (try simp at hz); omega)); have yw5_a : w.heap.size < w5.heap.size + 1 := (by omega); have yyw5_a : w.heap.size < w5.heap.size + 1 + 1 := (by omega); have zw5_b : w.heap.size + 1 < w5.heap.size := (by first | omega | (have hz := hb.size; (try simp at hz); omega)); have yw5_b : w.heap.size + 1 < w5.heap.size + 1 := (by omega); have yyw5_b : w.heap.size + 1 < w5.heap.size + 1 + 1 := (by omega); have zw5_c : w.heap.size + 1 + 1 < w5.heap.size := (by first | omega | (have hz := hb.size; (try simp at hz); omega)); have yw5_c : w.heap.size + 1 + 1 < w5.heap.size + 1 := (by omega); have yyw5_c : w.heap.size + 1 + 1 < w5.heap.size + 1 + 1 := (by omega); (try have sw5_0 : w3.heap.size < w5.heap.size := (by first | omega | (have hz := hb.size; (try simp at hz); omega))); (try have syw5_0 : w3.heap.size < w5.heap.size + 1 := (by omega)); (try have stw5_0 : w3.heap.size + 1 < w5.heap.size := (by first | omega | (have hz := hb.size; (try simp at hz); omega))); have sxw5_0 : w3.heap.size ≤ w5.heap.size := (by first | omega | (have hz := hb.size; (try simp at hz); omega)); (try have sw5_w4 : w4.heap.size < w5.heap.size := (by first | omega | (have hz := hb.size; (try simp at hz); omega))); (try have syw5_w4 : w4.heap.size < w5.heap.size + 1 := (by omega)); (try have stw5_w4 : w4.heap.size + 1 < w5.heap.size := (by first | omega | (have hz := hb.size; (try simp at hz); omega))); have sxw5_w4 : w4.heap.size ≤ w5.heap.size := (by first | omega | (have hz := hb.size; (try simp at hz); omega)); have HBw5 : Hid (Below w.heap.size w w5) := (bl_trans (by repeat (first | with_reducible exact Below.refl _ _ | with_reducible exact Hid.out (by assumption) | with_reducible refine Below.setCell ?_ (by first | (simp; done) | omega | (simp <;> omega)) _ | with_reducible refine bl_al ?_ _ | with_reducible apply Below.drew)) hb); clear hb; clear K5)
  try go_wp2_with fail
  refine hK.out _ _ ?_ (fun hHeldN => ?_)
  · (try dsimp only); (first | (simp [*, go_sem]; done) | (simp [*, go_sem, World.cell?_alloc_past]; done))
  clear hK K hHeld; have hHeld := hHeldN; clear hHeldN
  try simp only [Act.put, List.setIfInBounds_toArray, List.set_cons_zero, List.set_cons_succ]
  refine wpAnyH_take (i := 6) (oi := _) (v := ?_) (by simp only [List.getElem?_toArray, List.getElem?_cons_succ, List.getElem?_cons_zero]; rfl) (by kernel_rfl) (by kernel_rfl) (by kernel_rfl) (by exact fun _ _ _ h => h) (Or.inl ⟨by rfl, ?_⟩) (by assumption) ?_
  rotate_left 1
  · (intro w hSw; (try dsimp only at hSw); go_simp; try with_reducible rfl)
  try simp only [Act.put, List.setIfInBounds_toArray, List.set_cons_zero, List.set_cons_succ]
  refine wpAnyH_take (i := 7) (oi := _) (v := ?_) (by simp only [List.getElem?_toArray, List.getElem?_cons_succ, List.getElem?_cons_zero]; rfl) (by kernel_rfl) (by kernel_rfl) (by kernel_rfl) (by exact fun _ _ _ h => h) (Or.inl ⟨by rfl, ?_⟩) (by assumption) ?_
  rotate_left 1
  · (intro w hSw; (try dsimp only at hSw); go_simp; try with_reducible rfl)
  try simp only [Act.put, List.setIfInBounds_toArray, List.set_cons_zero, List.set_cons_succ]
  refine wpAnyH_done (by kernel_rfl) ?_ _
  clear hHeld
  go_upto_region 4 with fail
  refine wp_region_held_drew (S := fun w' => w'.cell? ⟨w.heap.size, 0, none⟩ = some (.int .i64 a1) ∧ w'.cell? ⟨w.heap.size, 1, none⟩ = some (.int .u64 a0) ∧ w'.cell? ⟨w.heap.size + 1, 0, none⟩ = some (.int .i64 b1) ∧ w'.cell? ⟨w.heap.size + 1, 1, none⟩ = some (.int .u64 b0) ∧ w'.cell? ⟨w.heap.size + 1 + 1, 0, none⟩ = some (.int .i64 c1) ∧ w'.cell? ⟨w.heap.size + 1 + 1, 1, none⟩ = some (.int .u64 c0)) (by kernel_rfl) ?_ (fun hHeld => ?_)
  · (try dsimp only); (first | (simp [*, go_sem]; done) | (simp [*, go_sem, World.cell?_alloc_past]; done))
  refine wpAnyH_take (i := 0) (oi := _) (v := ?_) (by simp only [List.getElem?_toArray, List.getElem?_cons_zero]; rfl) (by kernel_rfl) (by kernel_rfl) (by kernel_rfl) (by exact fun _ _ _ h => h) (Or.inl ⟨by rfl, ?_⟩) (by assumption) ?_
  rotate_left 1
  · (intro w hSw; (try dsimp only at hSw); go_simp; try with_reducible rfl)
  try simp only [Act.put, List.setIfInBounds_toArray, List.set_cons_zero, List.set_cons_succ]
  refine wpAnyH_take (i := 1) (oi := _) (v := ?_) (by simp only [List.getElem?_toArray, List.getElem?_cons_succ, List.getElem?_cons_zero]; rfl) (by kernel_rfl) (by kernel_rfl) (by kernel_rfl) (by exact fun _ _ _ h => h) (Or.inl ⟨by rfl, ?_⟩) (by assumption) ?_
  rotate_left 1
  · (intro w hSw; (try dsimp only at hSw); go_simp; try with_reducible rfl)
  try simp only [Act.put, List.setIfInBounds_toArray, List.set_cons_zero, List.set_cons_succ]
  refine wpAnyH_take (i := 2) (oi := _) (v := ?_) (by simp only [List.getElem?_toArray, List.getElem?_cons_succ, List.getElem?_cons_zero]; rfl) (by kernel_rfl) (by kernel_rfl) (by kernel_rfl) (by exact fun _ _ _ h => h) (Or.inl ⟨by rfl, ?_⟩) (by assumption) ?_
  rotate_left 1
  · (intro w hSw; (try dsimp only at hSw); go_simp; try with_reducible rfl)
  try simp only [Act.put, List.setIfInBounds_toArray, List.set_cons_zero, List.set_cons_succ]
  refine wpAnyH_take (i := 3) (oi := _) (v := ?_) (by simp only [List.getElem?_toArray, List.getElem?_cons_succ, List.getElem?_cons_zero]; rfl) (by kernel_rfl) (by kernel_rfl) (by kernel_rfl) (by exact fun _ _ _ h => h) (Or.inl ⟨by rfl, ?_⟩) (by assumption) ?_
  rotate_left 1
  · (intro w hSw; (try dsimp only at hSw); go_simp; try with_reducible rfl)
  try simp only [Act.put, List.setIfInBounds_toArray, List.set_cons_zero, List.set_cons_succ]
  refine wpAnyH_take (i := 4) (oi := _) (v := ?_) (by simp only [List.getElem?_toArray, List.getElem?_cons_succ, List.getElem?_cons_zero]; rfl) (by kernel_rfl) (by kernel_rfl) (by kernel_rfl) (by exact fun _ _ _ h => h) (Or.inl ⟨by rfl, ?_⟩) (by assumption) ?_
  rotate_left 1
  · (intro w hSw; (try dsimp only at hSw); go_simp; try with_reducible rfl)
  try simp only [Act.put, List.setIfInBounds_toArray, List.set_cons_zero, List.set_cons_succ]
  refine wpAnyH_take (i := 5) (oi := _) (v := ?_) (by simp only [List.getElem?_toArray, List.getElem?_cons_succ, List.getElem?_cons_zero]; rfl) (by kernel_rfl) (by kernel_rfl) (by kernel_rfl) (by exact fun _ _ _ h => h) (Or.inl ⟨by rfl, ?_⟩) (by assumption) ?_
  rotate_left 1
  · (intro w hSw; (try dsimp only at hSw); go_simp; try with_reducible rfl)
  try simp only [Act.put, List.setIfInBounds_toArray, List.set_cons_zero, List.set_cons_succ]
  refine wpAnyH_take (i := 6) (oi := _) (v := ?_) (by simp only [List.getElem?_toArray, List.getElem?_cons_succ, List.getElem?_cons_zero]; rfl) (by kernel_rfl) (by kernel_rfl) (by kernel_rfl) (by exact fun _ _ _ h => h) (Or.inl ⟨by rfl, ?_⟩) (by assumption) ?_
  rotate_left 1
  · (intro w hSw; (try dsimp only at hSw); go_simp; try with_reducible rfl)
  try simp only [Act.put, List.setIfInBounds_toArray, List.set_cons_zero, List.set_cons_succ]
  refine wpAnyH_take (i := 7) (oi := _) (v := ?_) (by simp only [List.getElem?_toArray, List.getElem?_cons_succ, List.getElem?_cons_zero]; rfl) (by kernel_rfl) (by kernel_rfl) (by kernel_rfl) (by exact fun _ _ _ h => h) (Or.inl ⟨by rfl, ?_⟩) (by assumption) ?_
  rotate_left 1
  · (intro w hSw; (try dsimp only at hSw); go_simp; try with_reducible rfl)
  try simp only [Act.put, List.setIfInBounds_toArray, List.set_cons_zero, List.set_cons_succ]
  refine wpAnyH_take (i := 8) (oi := _) (v := ?_) (by simp only [List.getElem?_toArray, List.getElem?_cons_succ, List.getElem?_cons_zero]; rfl) (by kernel_rfl) (by kernel_rfl) (by kernel_rfl) (by exact fun _ _ _ h => h) (Or.inl ⟨by rfl, ?_⟩) (by assumption) ?_
  rotate_left 1
  · (intro w hSw; (try dsimp only at hSw); go_simp; try with_reducible rfl)
  try simp only [Act.put, List.setIfInBounds_toArray, List.set_cons_zero, List.set_cons_succ]
  refine wpAnyH_take (i := 9) (oi := _) (v := ?_) (by simp only [List.getElem?_toArray, List.getElem?_cons_succ, List.getElem?_cons_zero]; rfl) (by kernel_rfl) (by kernel_rfl) (by kernel_rfl) (by exact fun _ _ _ h => h) (Or.inl ⟨by rfl, ?_⟩) (by assumption) ?_
  rotate_left 1
  · (intro w hSw; (try dsimp only at hSw); go_simp; try with_reducible rfl)
  try simp only [Act.put, List.setIfInBounds_toArray, List.set_cons_zero, List.set_cons_succ]
  refine wpAnyH_take (i := 10) (oi := _) (v := ?_) (by simp only [List.getElem?_toArray, List.getElem?_cons_succ, List.getElem?_cons_zero]; rfl) (by kernel_rfl) (by kernel_rfl) (by kernel_rfl) (by exact fun _ _ _ h => h) (Or.inl ⟨by rfl, ?_⟩) (by assumption) ?_
  rotate_left 1
  · (intro w hSw; (try dsimp only at hSw); go_simp; try with_reducible rfl)
  try simp only [Act.put, List.setIfInBounds_toArray, List.set_cons_zero, List.set_cons_succ]
  refine wpAnyH_take (i := 11) (oi := _) (v := ?_) (by simp only [List.getElem?_toArray, List.getElem?_cons_succ, List.getElem?_cons_zero]; rfl) (by kernel_rfl) (by kernel_rfl) (by kernel_rfl) (by exact fun _ _ _ h => h) (Or.inl ⟨by rfl, ?_⟩) (by assumption) ?_
  rotate_left 1
  · (intro w hSw; (try dsimp only at hSw); go_simp; try with_reducible rfl)
  try simp only [Act.put, List.setIfInBounds_toArray, List.set_cons_zero, List.set_cons_succ]
  refine wpAnyH_take (i := 12) (oi := _) (v := ?_) (by simp only [List.getElem?_toArray, List.getElem?_cons_succ, List.getElem?_cons_zero]; rfl) (by kernel_rfl) (by kernel_rfl) (by kernel_rfl) (by exact fun _ _ _ h => h) (Or.inl ⟨by rfl, ?_⟩) (by assumption) ?_
  rotate_left 1
  · (intro w hSw; (try dsimp only at hSw); go_simp; try with_reducible rfl)
  try simp only [Act.put, List.setIfInBounds_toArray, List.set_cons_zero, List.set_cons_succ]
  refine wpAnyH_take (i := 13) (oi := _) (v := ?_) (by simp only [List.getElem?_toArray, List.getElem?_cons_succ, List.getElem?_cons_zero]; rfl) (by kernel_rfl) (by kernel_rfl) (by kernel_rfl) (by exact fun _ _ _ h => h) (Or.inl ⟨by rfl, ?_⟩) (by assumption) ?_
  rotate_left 1
  · (intro w hSw; (try dsimp only at hSw); go_simp; try with_reducible rfl)
  try simp only [Act.put, List.setIfInBounds_toArray, List.set_cons_zero, List.set_cons_succ]
  refine wpAnyH_take (i := 14) (oi := _) (v := ?_) (by simp only [List.getElem?_toArray, List.getElem?_cons_succ, List.getElem?_cons_zero]; rfl) (by kernel_rfl) (by kernel_rfl) (by kernel_rfl) (by exact fun _ _ _ h => h) (Or.inl ⟨by rfl, ?_⟩) (by assumption) ?_
  rotate_left 1
  · (intro w hSw; (try dsimp only at hSw); go_simp; try with_reducible rfl)
  try simp only [Act.put, List.setIfInBounds_toArray, List.set_cons_zero, List.set_cons_succ]
  refine wpAnyH_take (i := 15) (oi := _) (v := ?_) (by simp only [List.getElem?_toArray, List.getElem?_cons_succ, List.getElem?_cons_zero]; rfl) (by kernel_rfl) (by kernel_rfl) (by kernel_rfl) (by exact fun _ _ _ h => h) (Or.inl ⟨by rfl, ?_⟩) (by assumption) ?_
  rotate_left 1
  · (intro w hSw; (try dsimp only at hSw); go_simp; try with_reducible rfl)
  try simp only [Act.put, List.setIfInBounds_toArray, List.set_cons_zero, List.set_cons_succ]
  refine wpAnyH_take (i := 16) (oi := _) (v := ?_) (by simp only [List.getElem?_toArray, List.getElem?_cons_succ, List.getElem?_cons_zero]; rfl) (by kernel_rfl) (by kernel_rfl) (by kernel_rfl) (by exact fun _ _ _ h => h) (Or.inl ⟨by rfl, ?_⟩) (by assumption) ?_
  rotate_left 1
  · (intro w hSw; (try dsimp only at hSw); go_simp; try with_reducible rfl)
  try simp only [Act.put, List.setIfInBounds_toArray, List.set_cons_zero, List.set_cons_succ]
  refine wpAnyH_take (i := 17) (oi := _) (v := ?_) (by simp only [List.getElem?_toArray, List.getElem?_cons_succ, List.getElem?_cons_zero]; rfl) (by kernel_rfl) (by kernel_rfl) (by kernel_rfl) (by exact fun _ _ _ h => h) (Or.inl ⟨by rfl, ?_⟩) (by assumption) ?_
  rotate_left 1
  · (intro w hSw; (try dsimp only at hSw); go_simp; try with_reducible rfl)
  try simp only [Act.put, List.setIfInBounds_toArray, List.set_cons_zero, List.set_cons_succ]
  refine wpAnyH_ready (rs := [18]) (by kernel_rfl) (by simp) ?_
  refine AllReadyH.cons (o := _) (by simp only [List.getElem?_toArray, List.getElem?_cons_succ, List.getElem?_cons_zero]; rfl) (fun K hK => ?_) AllReadyH.nil
  go_simp
  (go_at_call 15; (with_reducible refine (K6.out _).mono ?_); rintro e w6 ⟨rfl, hb⟩; (first | (with_reducible (obtain ⟨hclw6, hfrw6⟩ := bcell_drew hb)) | (obtain ⟨hclw6, hfrw6⟩ := bcell hb)); have zw6_a : w.heap.size < w6.heap.size := (by first | omega | (have hz := hb.size; (try simp at hz); omega)); have yw6_a : w.heap.size < w6.heap.size + 1 := (by omega); have yyw6_a : w.heap.size < w6.heap.size + 1 + 1 := (by omega); have zw6_b : w.heap.size + 1 < w6.heap.size := (by first | omega | (have hz := hb.size; (try simp at hz); omega)); have yw6_b : w.heap.size + 1 < w6.heap.size + 1 := (by omega); have yyw6_b : w.heap.size + 1 < w6.heap.size + 1 + 1 := (by omega); have zw6_c : w.heap.size + 1 + 1 < w6.heap.size := (by first | omega | (have hz := hb.size; (try simp at hz); omega)); have yw6_c : w.heap.size + 1 + 1 < w6.heap.size + 1 := (by omega); have yyw6_c : w.heap.size + 1 + 1 < w6.heap.size + 1 + 1 := (by omega); (try have sw6_0 : w5.heap.size < w6.heap.size := (by first | omega | (have hz := hb.size; (try simp at hz); omega))); (try have syw6_0 : w5.heap.size < w6.heap.size + 1 := (by omega)); (try have stw6_0 : w5.heap.size + 1 < w6.heap.size := (by first | omega | (have hz := hb.size; (try simp at hz); omega))); have sxw6_0 : w5.heap.size ≤ w6.heap.size := (by first | omega | (have hz := hb.size; (try simp at hz); omega)); have HBw6 : Hid (Below w.heap.size w w6) := (bl_trans (by repeat (first | with_reducible exact Below.refl _ _ | with_reducible exact Hid.out (by assumption) | with_reducible refine Below.setCell ?_ (by first | (simp; done) | omega | (simp <;> omega)) _ | with_reducible refine bl_al ?_ _ | with_reducible apply Below.drew)) hb); clear hb; clear K6)
  try go_wp2_with fail
  refine hK.out _ _ ?_ (fun hHeldN => ?_)
  · (try dsimp only); (first | (simp [*, go_sem]; done) | (simp [*, go_sem, World.cell?_alloc_past]; done))
  clear hK K hHeld; have hHeld := hHeldN; clear hHeldN
  try simp only [Act.put, List.setIfInBounds_toArray, List.set_cons_zero, List.set_cons_succ]
  refine wpAnyH_take (i := 19) (oi := _) (v := ?_) (by simp only [List.getElem?_toArray, List.getElem?_cons_succ, List.getElem?_cons_zero]; rfl) (by kernel_rfl) (by kernel_rfl) (by kernel_rfl) (by exact fun _ _ _ h => h) (Or.inl ⟨by rfl, ?_⟩) (by assumption) ?_
  rotate_left 1
  · (intro w hSw; (try dsimp only at hSw); go_simp; try with_reducible rfl)
  try simp only [Act.put, List.setIfInBounds_toArray, List.set_cons_zero, List.set_cons_succ]
  refine wpAnyH_take (i := 20) (oi := _) (v := ?_) (by simp only [List.getElem?_toArray, List.getElem?_cons_succ, List.getElem?_cons_zero]; rfl) (by kernel_rfl) (by kernel_rfl) (by kernel_rfl) (by exact fun _ _ _ h => h) (Or.inl ⟨by rfl, ?_⟩) (by assumption) ?_
  rotate_left 1
  · (intro w hSw; (try dsimp only at hSw); go_simp; try with_reducible rfl)
  try simp only [Act.put, List.setIfInBounds_toArray, List.set_cons_zero, List.set_cons_succ]
  refine wpAnyH_take (i := 21) (oi := _) (v := ?_) (by simp only [List.getElem?_toArray, List.getElem?_cons_succ, List.getElem?_cons_zero]; rfl) (by kernel_rfl) (by kernel_rfl) (by kernel_rfl) (by exact fun _ _ _ h => h) (Or.inl ⟨by rfl, ?_⟩) (by assumption) ?_
  rotate_left 1
  · (intro w hSw; (try dsimp only at hSw); go_simp; try with_reducible rfl)
  try simp only [Act.put, List.setIfInBounds_toArray, List.set_cons_zero, List.set_cons_succ]
  refine wpAnyH_take (i := 22) (oi := _) (v := ?_) (by simp only [List.getElem?_toArray, List.getElem?_cons_succ, List.getElem?_cons_zero]; rfl) (by kernel_rfl) (by kernel_rfl) (by kernel_rfl) (by exact fun _ _ _ h => h) (Or.inl ⟨by rfl, ?_⟩) (by assumption) ?_
  rotate_left 1
  · (intro w hSw; (try dsimp only at hSw); go_simp; try with_reducible rfl)
  try simp only [Act.put, List.setIfInBounds_toArray, List.set_cons_zero, List.set_cons_succ]
  refine wpAnyH_take (i := 23) (oi := _) (v := ?_) (by simp only [List.getElem?_toArray, List.getElem?_cons_succ, List.getElem?_cons_zero]; rfl) (by kernel_rfl) (by kernel_rfl) (by kernel_rfl) (by exact fun _ _ _ h => h) (Or.inl ⟨by rfl, ?_⟩) (by assumption) ?_
  rotate_left 1
  · (intro w hSw; (try dsimp only at hSw); go_simp; try with_reducible rfl)
  try simp only [Act.put, List.setIfInBounds_toArray, List.set_cons_zero, List.set_cons_succ]
  refine wpAnyH_ready (rs := [24]) (by kernel_rfl) (by simp) ?_
  refine AllReadyH.cons (o := _) (by simp only [List.getElem?_toArray, List.getElem?_cons_succ, List.getElem?_cons_zero]; rfl) (fun K hK => ?_) AllReadyH.nil
  go_simp
  (go_at_call 15; (with_reducible refine (K7.out _).mono ?_); rintro e w7 ⟨rfl, hb⟩; obtain ⟨hclw7, hfrw7⟩ := bcell hb; have zw7_a : w.heap.size < w7.heap.size := (by first | omega | (have hz := hb.size; (try simp at hz); omega)); have yw7_a : w.heap.size < w7.heap.size + 1 := (by omega); have yyw7_a : w.heap.size < w7.heap.size + 1 + 1 := (by omega); have zw7_b : w.heap.size + 1 < w7.heap.size := (by first | omega | (have hz := hb.size; (try simp at hz); omega)); have yw7_b : w.heap.size + 1 < w7.heap.size + 1 := (by omega); have yyw7_b : w.heap.size + 1 < w7.heap.size + 1 + 1 := (by omega); have zw7_c : w.heap.size + 1 + 1 < w7.heap.size := (by first | omega | (have hz := hb.size; (try simp at hz); omega)); have yw7_c : w.heap.size + 1 + 1 < w7.heap.size + 1 := (by omega); have yyw7_c : w.heap.size + 1 + 1 < w7.heap.size + 1 + 1 := (by omega); (try have sw7_0 : w5.heap.size < w7.heap.size := (by first | omega | (have hz := hb.size; (try simp at hz); omega))); (try have syw7_0 : w5.heap.size < w7.heap.size + 1 := (by omega)); (try have stw7_0 : w5.heap.size + 1 < w7.heap.size := (by first | omega | (have hz := hb.size; (try simp at hz); omega))); have sxw7_0 : w5.heap.size ≤ w7.heap.size := (by first | omega | (have hz := hb.size; (try simp at hz); omega)); (try have sw7_w6 : w6.heap.size < w7.heap.size := (by first | omega | (have hz := hb.size; (try simp at hz); omega))); (try have syw7_w6 : w6.heap.size < w7.heap.size + 1 := (by omega)); (try have stw7_w6 : w6.heap.size + 1 < w7.heap.size := (by first | omega | (have hz := hb.size; (try simp at hz); omega))); have sxw7_w6 : w6.heap.size ≤ w7.heap.size := (by first | omega | (have hz := hb.size; (try simp at hz); omega)); have HBw7 : Hid (Below w.heap.size w w7) := (bl_trans (by repeat (first | with_reducible exact Below.refl _ _ | with_reducible exact Hid.out (by assumption) | with_reducible refine Below.setCell ?_ (by first | (simp; done) | omega | (simp <;> omega)) _ | with_reducible refine bl_al ?_ _ | with_reducible apply Below.drew)) hb); clear hb; clear K7)
  try go_wp2_with fail
  refine hK.out _ _ ?_ (fun hHeldN => ?_)
  · (try dsimp only); (first | (simp [*, go_sem]; done) | (simp [*, go_sem, World.cell?_alloc_past]; done))
  clear hK K hHeld; have hHeld := hHeldN; clear hHeldN
  try simp only [Act.put, List.setIfInBounds_toArray, List.set_cons_zero, List.set_cons_succ]
  refine wpAnyH_take (i := 25) (oi := _) (v := ?_) (by simp only [List.getElem?_toArray, List.getElem?_cons_succ, List.getElem?_cons_zero]; rfl) (by kernel_rfl) (by kernel_rfl) (by kernel_rfl) (by exact fun _ _ _ h => h) (Or.inl ⟨by rfl, ?_⟩) (by assumption) ?_
  rotate_left 1
  · (intro w hSw; (try dsimp only at hSw); go_simp; try with_reducible rfl)
  try simp only [Act.put, List.setIfInBounds_toArray, List.set_cons_zero, List.set_cons_succ]
  refine wpAnyH_take (i := 26) (oi := _) (v := ?_) (by simp only [List.getElem?_toArray, List.getElem?_cons_succ, List.getElem?_cons_zero]; rfl) (by kernel_rfl) (by kernel_rfl) (by kernel_rfl) (by exact fun _ _ _ h => h) (Or.inl ⟨by rfl, ?_⟩) (by assumption) ?_
  rotate_left 1
  · (intro w hSw; (try dsimp only at hSw); go_simp; try with_reducible rfl)
  try simp only [Act.put, List.setIfInBounds_toArray, List.set_cons_zero, List.set_cons_succ]
  refine wpAnyH_take (i := 27) (oi := _) (v := ?_) (by simp only [List.getElem?_toArray, List.getElem?_cons_succ, List.getElem?_cons_zero]; rfl) (by kernel_rfl) (by kernel_rfl) (by kernel_rfl) (by exact fun _ _ _ h => h) (Or.inl ⟨by rfl, ?_⟩) (by assumption) ?_
  rotate_left 1
  · (intro w hSw; (try dsimp only at hSw); go_simp; try with_reducible rfl)
  try simp only [Act.put, List.setIfInBounds_toArray, List.set_cons_zero, List.set_cons_succ]
  refine wpAnyH_take (i := 28) (oi := _) (v := ?_) (by simp only [List.getElem?_toArray, List.getElem?_cons_succ, List.getElem?_cons_zero]; rfl) (by kernel_rfl) (by kernel_rfl) (by kernel_rfl) (by exact fun _ _ _ h => h) (Or.inl ⟨by rfl, ?_⟩) (by assumption) ?_
  rotate_left 1
  · (intro w hSw; (try dsimp only at hSw); go_simp; try with_reducible rfl)
  try simp only [Act.put, List.setIfInBounds_toArray, List.set_cons_zero, List.set_cons_succ]
  refine wpAnyH_take (i := 29) (oi := _) (v := ?_) (by simp only [List.getElem?_toArray, List.getElem?_cons_succ, List.getElem?_cons_zero]; rfl) (by kernel_rfl) (by kernel_rfl) (by kernel_rfl) (by exact fun _ _ _ h => h) (Or.inl ⟨by rfl, ?_⟩) (by assumption) ?_
  rotate_left 1
  · (intro w hSw; (try dsimp only at hSw); go_simp; try with_reducible rfl)
  try simp only [Act.put, List.setIfInBounds_toArray, List.set_cons_zero, List.set_cons_succ]
  refine wpAnyH_take (i := 31) (oi := _) (v := ?_) (by simp only [List.getElem?_toArray, List.getElem?_cons_succ, List.getElem?_cons_zero]; rfl) (by kernel_rfl) (by kernel_rfl) (by kernel_rfl) (by exact fun _ _ _ h => h) (Or.inl ⟨by rfl, ?_⟩) (by assumption) ?_
  rotate_left 1
  · (intro w hSw; (try dsimp only at hSw); go_simp; try with_reducible rfl)
  try simp only [Act.put, List.setIfInBounds_toArray, List.set_cons_zero, List.set_cons_succ]
  refine wpAnyH_take (i := 34) (oi := _) (v := ?_) (by simp only [List.getElem?_toArray, List.getElem?_cons_succ, List.getElem?_cons_zero]; rfl) (by kernel_rfl) (by kernel_rfl) (by kernel_rfl) (by exact fun _ _ _ h => h) (Or.inl ⟨by rfl, ?_⟩) (by assumption) ?_
  rotate_left 1
  · (intro w hSw; (try dsimp only at hSw); go_simp; try with_reducible rfl)
  try simp only [Act.put, List.setIfInBounds_toArray, List.set_cons_zero, List.set_cons_succ]
  refine wpAnyH_ready (rs := [30]) (by kernel_rfl) (by simp) ?_
  refine AllReadyH.cons (o := _) (by simp only [List.getElem?_toArray, List.getElem?_cons_succ, List.getElem?_cons_zero]; rfl) (fun K hK => ?_) AllReadyH.nil
  go_simp
  (go_at_call 30; (with_reducible refine (K8.out _).mono ?_); rintro e w8 ⟨rfl, hb⟩; obtain ⟨hclw8, hfrw8⟩ := bcell hb; have zw8_a : w.heap.size < w8.heap.size := (by first | omega | (have hz := hb.size; (try simp at hz); omega)); have yw8_a : w.heap.size < w8.heap.size + 1 := (by omega); have yyw8_a : w.heap.size < w8.heap.size + 1 + 1 := (by omega); have zw8_b : w.heap.size + 1 < w8.heap.size := (by first | omega | (have hz := hb.size; (try simp at hz); omega)); have yw8_b : w.heap.size + 1 < w8.heap.size + 1 := (by omega); have yyw8_b : w.heap.size + 1 < w8.heap.size + 1 + 1 := (by omega); have zw8_c : w.heap.size + 1 + 1 < w8.heap.size := (by first | omega | (have hz := hb.size; (try simp at hz); omega)); have yw8_c : w.heap.size + 1 + 1 < w8.heap.size + 1 := (by omega); have yyw8_c : w.heap.size + 1 + 1 < w8.heap.size + 1 + 1 := (by omega); (try have sw8_0 : w5.heap.size < w8.heap.size := (by first | omega | (have hz := hb.size; (try simp at hz); omega))); (try have syw8_0 : w5.heap.size < w8.heap.size + 1 := (by omega)); (try have stw8_0 : w5.heap.size + 1 < w8.heap.size := (by first | omega | (have hz := hb.size; (try simp at hz); omega))); have sxw8_0 : w5.heap.size ≤ w8.heap.size := (by first | omega | (have hz := hb.size; (try simp at hz); omega)); (try have sw8_w6 : w6.heap.size < w8.heap.size := (by first | omega | (have hz := hb.size; (try simp at hz); omega))); (try have syw8_w6 : w6.heap.size < w8.heap.size + 1 := (by omega)); (try have stw8_w6 : w6.heap.size + 1 < w8.heap.size := (by first | omega | (have hz := hb.size; (try simp at hz); omega))); have sxw8_w6 : w6.heap.size ≤ w8.heap.size := (by first | omega | (have hz := hb.size; (try simp at hz); omega)); (try have sw8_w7 : w7.heap.size < w8.heap.size := (by first | omega | (have hz := hb.size; (try simp at hz); omega))); (try have syw8_w7 : w7.heap.size < w8.heap.size + 1 := (by omega)); (try have stw8_w7 : w7.heap.size + 1 < w8.heap.size := (by first | omega | (have hz := hb.size; (try simp at hz); omega))); have sxw8_w7 : w7.heap.size ≤ w8.heap.size := (by first | omega | (have hz := hb.size; (try simp at hz); omega)); have HBw8 : Hid (Below w.heap.size w w8) := (bl_trans (by repeat (first | with_reducible exact Below.refl _ _ | with_reducible exact Hid.out (by assumption) | with_reducible refine Below.setCell ?_ (by first | (simp; done) | omega | (simp <;> omega)) _ | with_reducible refine bl_al ?_ _ | with_reducible apply Below.drew)) hb); clear hb; clear K8)
  try go_wp2_with fail
  refine hK.out _ _ ?_ (fun hHeldN => ?_)
  · (try dsimp only); (first | (simp [*, go_sem]; done) | (simp [*, go_sem, World.cell?_alloc_past]; done))
  clear hK K hHeld; have hHeld := hHeldN; clear hHeldN
  try simp only [Act.put, List.setIfInBounds_toArray, List.set_cons_zero, List.set_cons_succ]
  refine wpAnyH_ready (rs := [32]) (by kernel_rfl) (by simp) ?_
  refine AllReadyH.cons (o := _) (by simp only [List.getElem?_toArray, List.getElem?_cons_succ, List.getElem?_cons_zero]; rfl) (fun K hK => ?_) AllReadyH.nil
  go_simp
  (go_at_call 30; (with_reducible refine (K9.out _).mono ?_); rintro e w9 ⟨rfl, hb⟩; obtain ⟨hclw9, hfrw9⟩ := bcell hb; have zw9_a : w.heap.size < w9.heap.size := (by first | omega | (have hz := hb.size; (try simp at hz); omega)); have yw9_a : w.heap.size < w9.heap.size + 1 := (by omega); have yyw9_a : w.heap.size < w9.heap.size + 1 + 1 := (by omega); have zw9_b : w.heap.size + 1 < w9.heap.size := (by first | omega | (have hz := hb.size; (try simp at hz); omega)); have yw9_b : w.heap.size + 1 < w9.heap.size + 1 := (by omega); have yyw9_b : w.heap.size + 1 < w9.heap.size + 1 + 1 := (by omega); have zw9_c : w.heap.size + 1 + 1 < w9.heap.size := (by first | omega | (have hz := hb.size; (try simp at hz); omega)); have yw9_c : w.heap.size + 1 + 1 < w9.heap.size + 1 := (by omega); have yyw9_c : w.heap.size + 1 + 1 < w9.heap.size + 1 + 1 := (by omega); (try have sw9_0 : w5.heap.size < w9.heap.size := (by first | omega | (have hz := hb.size; (try simp at hz); omega))); (try have syw9_0 : w5.heap.size < w9.heap.size + 1 := (by omega)); (try have stw9_0 : w5.heap.size + 1 < w9.heap.size := (by first | omega | (have hz := hb.size; (try simp at hz); omega))); have sxw9_0 : w5.heap.size ≤ w9.heap.size := (by first | omega | (have hz := hb.size; (try simp at hz); omega)); (try have sw9_w6 : w6.heap.size < w9.heap.size := (by first | omega | (have hz := hb.size; (try simp at hz); omega))); (try have syw9_w6 : w6.heap.size < w9.heap.size + 1 := (by omega)); (try have stw9_w6 : w6.heap.size + 1 < w9.heap.size := (by first | omega | (have hz := hb.size; (try simp at hz); omega))); have sxw9_w6 : w6.heap.size ≤ w9.heap.size := (by first | omega | (have hz := hb.size; (try simp at hz); omega)); (try have sw9_w7 : w7.heap.size < w9.heap.size := (by first | omega | (have hz := hb.size; (try simp at hz); omega))); (try have syw9_w7 : w7.heap.size < w9.heap.size + 1 := (by omega)); (try have stw9_w7 : w7.heap.size + 1 < w9.heap.size := (by first | omega | (have hz := hb.size; (try simp at hz); omega))); have sxw9_w7 : w7.heap.size ≤ w9.heap.size := (by first | omega | (have hz := hb.size; (try simp at hz); omega)); (try have sw9_w8 : w8.heap.size < w9.heap.size := (by first | omega | (have hz := hb.size; (try simp at hz); omega))); (try have syw9_w8 : w8.heap.size < w9.heap.size + 1 := (by omega)); (try have stw9_w8 : w8.heap.size + 1 < w9.heap.size := (by first | omega | (have hz := hb.size; (try simp at hz); omega))); have sxw9_w8 : w8.heap.size ≤ w9.heap.size := (by first | omega | (have hz := hb.size; (try simp at hz); omega)); have HBw9 : Hid (Below w.heap.size w w9) := (bl_trans (by repeat (first | with_reducible exact Below.refl _ _ | with_reducible exact Hid.out (by assumption) | with_reducible refine Below.setCell ?_ (by first | (simp; done) | omega | (simp <;> omega)) _ | with_reducible refine bl_al ?_ _ | with_reducible apply Below.drew)) hb); clear hb; clear K9)
  try go_wp2_with fail
  refine hK.out _ _ ?_ (fun hHeldN => ?_)
  · (try dsimp only); (first | (simp [*, go_sem]; done) | (simp [*, go_sem, World.cell?_alloc_past]; done))
  clear hK K hHeld; have hHeld := hHeldN; clear hHeldN
  try simp only [Act.put, List.setIfInBounds_toArray, List.set_cons_zero, List.set_cons_succ]
  refine wpAnyH_ready (rs := [33]) (by kernel_rfl) (by simp) ?_
  refine AllReadyH.cons (o := _) (by simp only [List.getElem?_toArray, List.getElem?_cons_succ, List.getElem?_cons_zero]; rfl) (fun K hK => ?_) AllReadyH.nil
  go_simp
  (go_at_call 15; (with_reducible refine (K10.out _).mono ?_); rintro e w10 ⟨rfl, hb⟩; obtain ⟨hclw10, hfrw10⟩ := bcell hb; have zw10_a : w.heap.size < w10.heap.size := (by first | omega | (have hz := hb.size; (try simp at hz); omega)); have yw10_a : w.heap.size < w10.heap.size + 1 := (by omega); have yyw10_a : w.heap.size < w10.heap.size + 1 + 1 := (by omega); have zw10_b : w.heap.size + 1 < w10.heap.size := (by first | omega | (have hz := hb.size; (try simp at hz); omega)); have yw10_b : w.heap.size + 1 < w10.heap.size + 1 := (by omega); have yyw10_b : w.heap.size + 1 < w10.heap.size + 1 + 1 := (by omega); have zw10_c : w.heap.size + 1 + 1 < w10.heap.size := (by first | omega | (have hz := hb.size; (try simp at hz); omega)); have yw10_c : w.heap.size + 1 + 1 < w10.heap.size + 1 := (by omega); have yyw10_c : w.heap.size + 1 + 1 < w10.heap.size + 1 + 1 := (by omega); (try have sw10_0 : w5.heap.size < w10.heap.size := (by first | omega | (have hz := hb.size; (try simp at hz); omega))); (try have syw10_0 : w5.heap.size < w10.heap.size + 1 := (by omega)); (try have stw10_0 : w5.heap.size + 1 < w10.heap.size := (by first | omega | (have hz := hb.size; (try simp at hz); omega))); have sxw10_0 : w5.heap.size ≤ w10.heap.size := (by first | omega | (have hz := hb.size; (try simp at hz); omega)); (try have sw10_w6 : w6.heap.size < w10.heap.size := (by first | omega | (have hz := hb.size; (try simp at hz); omega))); (try have syw10_w6 : w6.heap.size < w10.heap.size + 1 := (by omega)); (try have stw10_w6 : w6.heap.size + 1 < w10.heap.size := (by first | omega | (have hz := hb.size; (try simp at hz); omega))); have sxw10_w6 : w6.heap.size ≤ w10.heap.size := (by first | omega | (have hz := hb.size; (try simp at hz); omega)); (try have sw10_w7 : w7.heap.size < w10.heap.size := (by first | omega | (have hz := hb.size; (try simp at hz); omega))); (try have syw10_w7 : w7.heap.size < w10.heap.size + 1 := (by omega)); (try have stw10_w7 : w7.heap.size + 1 < w10.heap.size := (by first | omega | (have hz := hb.size; (try simp at hz); omega))); have sxw10_w7 : w7.heap.size ≤ w10.heap.size := (by first | omega | (have hz := hb.size; (try simp at hz); omega)); (try have sw10_w8 : w8.heap.size < w10.heap.size := (by first | omega | (have hz := hb.size; (try simp at hz); omega))); (try have syw10_w8 : w8.heap.size < w10.heap.size + 1 := (by omega)); (try have stw10_w8 : w8.heap.size + 1 < w10.heap.size := (by first | omega | (have hz := hb.size; (try simp at hz); omega))); have sxw10_w8 : w8.heap.size ≤ w10.heap.size := (by first | omega | (have hz := hb.size; (try simp at hz); omega)); (try have sw10_w9 : w9.heap.size < w10.heap.size := (by first | omega | (have hz := hb.size; (try simp at hz); omega))); (try have syw10_w9 : w9.heap.size < w10.heap.size + 1 := (by omega)); (try have stw10_w9 : w9.heap.size + 1 < w10.heap.size := (by first | omega | (have hz := hb.size; (try simp at hz); omega))); have sxw10_w9 : w9.heap.size ≤ w10.heap.size := (by first | omega | (have hz := hb.size; (try simp at hz); omega)); have HBw10 : Hid (Below w.heap.size w w10) := (bl_trans (by repeat (first | with_reducible exact Below.refl _ _ | with_reducible exact Hid.out (by assumption) | with_reducible refine Below.setCell ?_ (by first | (simp; done) | omega | (simp <;> omega)) _ | with_reducible refine bl_al ?_ _ | with_reducible apply Below.drew)) hb); clear hb; clear K10)
  try go_wp2_with fail
  refine hK.out _ _ ?_ (fun hHeldN => ?_)
  · (try dsimp only); (first | (simp [*, go_sem]; done) | (simp [*, go_sem, World.cell?_alloc_past]; done))
  clear hK K hHeld; have hHeld := hHeldN; clear hHeldN
  try simp only [Act.put, List.setIfInBounds_toArray, List.set_cons_zero, List.set_cons_succ]
  refine wpAnyH_take (i := 35) (oi := _) (v := ?_) (by simp only [List.getElem?_toArray, List.getElem?_cons_succ, List.getElem?_cons_zero]; rfl) (by kernel_rfl) (by kernel_rfl) (by kernel_rfl) (by exact fun _ _ _ h => h) (Or.inl ⟨by rfl, ?_⟩) (by assumption) ?_
  rotate_left 1
  · (intro w hSw; (try dsimp only at hSw); go_simp; try with_reducible rfl)
  try simp only [Act.put, List.setIfInBounds_toArray, List.set_cons_zero, List.set_cons_succ]
  refine wpAnyH_take (i := 36) (oi := _) (v := ?_) (by simp only [List.getElem?_toArray, List.getElem?_cons_succ, List.getElem?_cons_zero]; rfl) (by kernel_rfl) (by kernel_rfl) (by kernel_rfl) (by exact fun _ _ _ h => h) (Or.inl ⟨by rfl, ?_⟩) (by assumption) ?_
  rotate_left 1
  · (intro w hSw; (try dsimp only at hSw); go_simp; try with_reducible rfl)
  try simp only [Act.put, List.setIfInBounds_toArray, List.set_cons_zero, List.set_cons_succ]
  refine wpAnyH_take (i := 37) (oi := _) (v := ?_) (by simp only [List.getElem?_toArray, List.getElem?_cons_succ, List.getElem?_cons_zero]; rfl) (by kernel_rfl) (by kernel_rfl) (by kernel_rfl) (by exact fun _ _ _ h => h) (Or.inl ⟨by rfl, ?_⟩) (by assumption) ?_
  rotate_left 1
  · (intro w hSw; (try dsimp only at hSw); go_simp; try with_reducible rfl)
  try simp only [Act.put, List.setIfInBounds_toArray, List.set_cons_zero, List.set_cons_succ]
  refine wpAnyH_ready (rs := [38]) (by kernel_rfl) (by simp) ?_
  refine AllReadyH.cons (o := _) (by simp only [List.getElem?_toArray, List.getElem?_cons_succ, List.getElem?_cons_zero]; rfl) (fun K hK => ?_) AllReadyH.nil
  go_simp
  (go_at_call 17; (with_reducible refine (K11.out _).mono ?_); rintro e w11 ⟨rfl, hb⟩; obtain ⟨hclw11, hfrw11⟩ := bcell hb; have zw11_a : w.heap.size < w11.heap.size := (by first | omega | (have hz := hb.size; (try simp at hz); omega)); have yw11_a : w.heap.size < w11.heap.size + 1 := (by omega); have yyw11_a : w.heap.size < w11.heap.size + 1 + 1 := (by omega); have zw11_b : w.heap.size + 1 < w11.heap.size := (by first | omega | (have hz := hb.size; (try simp at hz); omega)); have yw11_b : w.heap.size + 1 < w11.heap.size + 1 := (by omega); have yyw11_b : w.heap.size + 1 < w11.heap.size + 1 + 1 := (by omega); have zw11_c : w.heap.size + 1 + 1 < w11.heap.size := (by first | omega | (have hz := hb.size; (try simp at hz); omega)); have yw11_c : w.heap.size + 1 + 1 < w11.heap.size + 1 := (by omega); have yyw11_c : w.heap.size + 1 + 1 < w11.heap.size + 1 + 1 := (by omega); (try have sw11_0 : w5.heap.size < w11.heap.size := (by first | omega | (have hz := hb.size; (try simp at hz); omega))); (try have syw11_0 : w5.heap.size < w11.heap.size + 1 := (by omega)); (try have stw11_0 : w5.heap.size + 1 < w11.heap.size := (by first | omega | (have hz := hb.size; (try simp at hz); omega))); have sxw11_0 : w5.heap.size ≤ w11.heap.size := (by first | omega | (have hz := hb.size; (try simp at hz); omega)); (try have sw11_w6 : w6.heap.size < w11.heap.size := (by first | omega | (have hz := hb.size; (try simp at hz); omega))); (try have syw11_w6 : w6.heap.size < w11.heap.size + 1 := (by omega)); (try have stw11_w6 : w6.heap.size + 1 < w11.heap.size := (by first | omega | (have hz := hb.size; (try simp at hz); omega))); have sxw11_w6 : w6.heap.size ≤ w11.heap.size := (by first | omega | (have hz := hb.size; (try simp at hz); omega)); (try have sw11_w7 : w7.heap.size < w11.heap.size := (by first | omega | (have hz := hb.size; (try simp at hz); omega))); (try have syw11_w7 : w7.heap.size < w11.heap.size + 1 := (by omega)); (try have stw11_w7 : w7.heap.size + 1 < w11.heap.size := (by first | omega | (have hz := hb.size; (try simp at hz); omega))); have sxw11_w7 : w7.heap.size ≤ w11.heap.size := (by first | omega | (have hz := hb.size; (try simp at hz); omega)); (try have sw11_w8 : w8.heap.size < w11.heap.size := (by first | omega | (have hz := hb.size; (try simp at hz); omega))); (try have syw11_w8 : w8.heap.size < w11.heap.size + 1 := (by omega)); (try have stw11_w8 : w8.heap.size + 1 < w11.heap.size := (by first | omega | (have hz := hb.size; (try simp at hz); omega))); have sxw11_w8 : w8.heap.size ≤ w11.heap.size := (by first | omega | (have hz := hb.size; (try simp at hz); omega)); (try have sw11_w9 : w9.heap.size < w11.heap.size := (by first | omega | (have hz := hb.size; (try simp at hz); omega))); (try have syw11_w9 : w9.heap.size < w11.heap.size + 1 := (by omega)); (try have stw11_w9 : w9.heap.size + 1 < w11.heap.size := (by first | omega | (have hz := hb.size; (try simp at hz); omega))); have sxw11_w9 : w9.heap.size ≤ w11.heap.size := (by first | omega | (have hz := hb.size; (try simp at hz); omega)); (try have sw11_w10 : w10.heap.size < w11.heap.size := (by first | omega | (have hz := hb.size; (try simp at hz); omega))); (try have syw11_w10 : w10.heap.size < w11.heap.size + 1 := (by omega)); (try have stw11_w10 : w10.heap.size + 1 < w11.heap.size := (by first | omega | (have hz := hb.size; (try simp at hz); omega))); have sxw11_w10 : w10.heap.size ≤ w11.heap.size := (by first | omega | (have hz := hb.size; (try simp at hz); omega)); have HBw11 : Hid (Below w.heap.size w w11) := (bl_trans (by repeat (first | with_reducible exact Below.refl _ _ | with_reducible exact Hid.out (by assumption) | with_reducible refine Below.setCell ?_ (by first | (simp; done) | omega | (simp <;> omega)) _ | with_reducible refine bl_al ?_ _ | with_reducible apply Below.drew)) hb); clear hb; clear K11)
  try go_wp2_with fail
  refine hK.out _ _ ?_ (fun hHeldN => ?_)
  · (try dsimp only); (first | (simp [*, go_sem]; done) | (simp [*, go_sem, World.cell?_alloc_past]; done))
  clear hK K hHeld; have hHeld := hHeldN; clear hHeldN
  try simp only [Act.put, List.setIfInBounds_toArray, List.set_cons_zero, List.set_cons_succ]
  refine wpAnyH_take (i := 39) (oi := _) (v := ?_) (by simp only [List.getElem?_toArray, List.getElem?_cons_succ, List.getElem?_cons_zero]; rfl) (by kernel_rfl) (by kernel_rfl) (by kernel_rfl) (by exact fun _ _ _ h => h) (Or.inl ⟨by rfl, ?_⟩) (by assumption) ?_
  rotate_left 1
  · (intro w hSw; (try dsimp only at hSw); go_simp; try with_reducible rfl)
  try simp only [Act.put, List.setIfInBounds_toArray, List.set_cons_zero, List.set_cons_succ]
  refine wpAnyH_take (i := 40) (oi := _) (v := ?_) (by simp only [List.getElem?_toArray, List.getElem?_cons_succ, List.getElem?_cons_zero]; rfl) (by kernel_rfl) (by kernel_rfl) (by kernel_rfl) (by exact fun _ _ _ h => h) (Or.inl ⟨by rfl, ?_⟩) (by assumption) ?_
  rotate_left 1
  · (intro w hSw; (try dsimp only at hSw); go_simp; try with_reducible rfl)
  try simp only [Act.put, List.setIfInBounds_toArray, List.set_cons_zero, List.set_cons_succ]
  refine wpAnyH_done (by kernel_rfl) ?_ _
  clear hHeld
  go_wp2_with fail
  go_returns
  exact ⟨rfl, by repeat (first | with_reducible exact Below.refl _ _ | with_reducible exact Hid.out (by assumption) | with_reducible refine Below.setCell ?_ (by first | (simp; done) | omega | (simp <;> omega)) _ | with_reducible refine bl_al ?_ _ | with_reducible apply Below.drew)⟩
theorem icmp_neg (x y : Int) : icmp (-x) (-y) = icmp y x := by
  unfold icmp; repeat' split
  all_goals omega
theorem icmp_swap (x y : Int) : IntKind.i64.wrap (-icmp y x) = icmp x y := by
  rw [wrap_i64]; unfold icmp; repeat' split
  all_goals omega
theorem icmp_eq0 (x y : Int) : (icmp x y == 0) = decide (fh x = fh y ∧ fl x = fl y) := by
  rw [Bool.eq_iff_iff, beq_iff_eq, decide_eq_true_eq]
  constructor
  · intro h
    have e : x = y := by
      unfold icmp at h
      split at h
      · omega
      · split at h
        · omega
        · omega
    rw [e]; exact ⟨rfl, rfl⟩
  · intro h
    rw [fx_ext h.1 h.2]; unfold icmp; simp
theorem fixOrder_walk (x y z : Int) (hx : Fx x) (hy : Fx y) (hz : Fx z) (w : World) :
    Calls Try.prog 10 #[.agg #[.int .i64 (fh x), .int .u64 (fl x)], .agg #[.int .i64 (fh y), .int .u64 (fl y)], .agg #[.int .i64 (fh z), .int .u64 (fl z)]] w fun e w' => e = .returned (.bool true) ∧ Below w.heap.size w w' := by
  by_cases mx : My x
  · by_cases my : My y
    · by_cases mz : My z
      · have C10 := fcmp_any (-x) (-y)
        rw [icmp_neg] at C10
        have q := eq_fix (fh x) (fl x) (fh y) (fl y)
        rw [← icmp_eq0 x y] at q
        by_cases c1 : 0 < icmp x y
        · exact fixOrder_x _ _ _ _ _ _ _ _ _ _ _ _ _ _ _ (icmp_swap x y) q rfl c1 w (rmay_true mx) (rmay_true my) (rmay_true mz) (fcmp_any x y) (fcmp_any y x) (fcmp_any y z) (fcmp_any x z) (neg_any x mx) (neg_any y my) C10 fawake_true
        · by_cases c2 : 0 < icmp y z
          · exact fixOrder_u _ _ _ _ _ _ _ _ _ _ _ _ _ _ _ (icmp_swap x y) q rfl c1 c2 w (rmay_true mx) (rmay_true my) (rmay_true mz) (fcmp_any x y) (fcmp_any y x) (fcmp_any y z) (fcmp_any x z) (neg_any x mx) (neg_any y my) C10 fawake_true
          · have c3 : icmp x z ≤ 0 := by
              unfold icmp at c1 c2 ⊢
              split at c1 <;> split at c2 <;> repeat' split
              all_goals (try omega)
              all_goals (repeat' (split at *))
              all_goals omega
            exact fixOrder_v _ _ _ _ _ _ _ _ _ _ _ _ _ _ _ (icmp_swap x y) q rfl c1 c2 c3 w (rmay_true mx) (rmay_true my) (rmay_true mz) (fcmp_any x y) (fcmp_any y x) (fcmp_any y z) (fcmp_any x z) (neg_any x mx) (neg_any y my) C10 fawake_true
      · exact fixOrder_out2 _ _ _ _ _ _ w (rmay_true mx) (rmay_true my) (rmay_false hz mz) fawake_true
    · exact fixOrder_out1 _ _ _ _ _ _ w (rmay_true mx) (rmay_false hy my) fawake_true
  · exact fixOrder_out0 _ _ _ _ _ _ w (rmay_false hx mx) fawake_true

set_option maxRecDepth 100000 in
theorem fixOrder_lifted (os : Os) (started : os.Started) (H : Type) (enc : TypeId × Value → H) :
    ReturnsInHanded {} Try.checked os 10 .any (Rows.fixOrderSpec.pre6 enc Try.prog Try.f10 Rows.fixOrderRow.domain false) (Rows.fixOrderSpec.post enc Try.prog Try.f10 false true false false) := by
  refine returnsInHanded_of_change (C := Try.checked) Try.own started (by kernel_rfl) Try.func10
    (ChangeSpec.witness6 (enc := enc) (C := Try.checked) false ⟨#[], #[.agg #[.int .i64 0, .int .u64 0], .agg #[.int .i64 0, .int .u64 0], .agg #[.int .i64 0, .int .u64 0]], []⟩ 8 (by kernel_rfl) (by kernel_rfl) (by kernel_rfl) (by kernel_rfl)) ?_
  intro W base args ds gs before hval0 hW hcnd _
  have hval : ∀ (j : Nat) t v, Try.f10.params[j]? = some t → args[j]? = some v → Value.okWide Try.prog W .any base t v := hval0
  have hW' := hW
  obtain ⟨p, q, hA0, hV, rfl, hfz, hnd⟩ := hW
  have hA : DataW.TrodAll enc Try.prog W 0 (fun _ => true) true Try.f10.params.toList args.toList ds p := hA0
  rw [Try.params10] at hA hval
  obtain ⟨v0, v1, v2, d0, d1, d2, p0, p1, p2, rfl, rfl, rfl, h0, h1, h2⟩ := trodAll_three hA
  obtain ⟨rfl, rfl⟩ := trodVars_none hV
  obtain ⟨x, rfl, rfl, rfl, k00⟩ := open_fix (hval 0 24 v0 rfl rfl) h0
  obtain ⟨y, rfl, rfl, rfl, k10⟩ := open_fix (hval 1 24 v1 rfl rfl) h1
  obtain ⟨z, rfl, rfl, rfl, k20⟩ := open_fix (hval 2 24 v2 rfl rfl) h2
  clear hA0 hval0
  simp only [List.append_nil] at hW'
  refine (fixOrder_walk x y z k00 k10 k20 W).mono fun e W' ⟨he, hb⟩ => ?_
  subst he
  exact ⟨_, rfl, _, _, _, [], [], [], hW', trodAll_mk1 (shut_bool Try.underlying4 _), trodAll_mk3 (shut_fix k00) (shut_fix k10) (shut_fix k20), rfl, hb.frame _, fun h => by cases h⟩

theorem fixOrder_holds : Rows.FixOrderSaid :=
  OpenClaim.holds_of_wide 10 Try.f10 rfl rfl rfl rfl rfl rfl rfl ⟨rfl, rfl, rfl, rfl, rfl⟩ rfl rfl rfl rfl rfl (by kernel_rfl) Try.func10 (by kernel_rfl)
    (of_decide_eq_true (by kernel_rfl)) (by unfold Func.isWrapper; first | (rw [if_pos (by decide +kernel)]; kernel_rfl) | (rw [if_neg (by decide +kernel)]; exact ⟨rfl, rfl⟩))
    (fun os started H enc _ => fixOrder_lifted os started H enc)
end Go.Proofs.Ytjiipbmnagpejaa
