/- FixSigns: what is turned about in one sign is turned about in its answer; in both signs it is as it was. For any two numbers, without conditions. -/
import Derived.Test.YtjiipbmnagpejaaFixAwake
namespace Go.Proofs.Ytjiipbmnagpejaa
open Go.ChangeShapes Go.WideShapes Go.ChangeAt Go.RowKit Go.Joins

set_option maxRecDepth 20000 in
set_option maxHeartbeats 4000000 in
theorem fixSigns_out0 (a1 a0 b1 b0 : Int)  (w : World)
    (C1 : ∀ W, Calls Try.prog 14 #[.agg #[.int .i64 a1, .int .u64 a0]] W fun e w' => e = .returned (.bool false) ∧ Below W.heap.size W w')
    (C2 : ∀ W, Calls Try.prog 17 #[] W fun e w' => e = .returned (.bool true) ∧ Below W.heap.size W w') :
    Calls Try.prog 5 #[.agg #[.int .i64 a1, .int .u64 a0], .agg #[.int .i64 b1, .int .u64 b0]] w fun e w' => e = .returned (.bool true) ∧ Below w.heap.size w w' := by
  have K1 := Lib.hid C1; have K2 := Lib.hid C2
  clear C1 C2
  go_enter Try.func5, Try.ntmps5
  go_wp2_with fail
  (with_reducible refine (K1.out _).mono ?_); rintro e w1 ⟨rfl, hb⟩; obtain ⟨hclw1, hfrw1⟩ := bcell hb; have zw1_a : w.heap.size < w1.heap.size := (by first | omega | (have hz := hb.size; (try simp at hz); omega)); have yw1_a : w.heap.size < w1.heap.size + 1 := (by omega); have yyw1_a : w.heap.size < w1.heap.size + 1 + 1 := (by omega); have zw1_b : w.heap.size + 1 < w1.heap.size := (by first | omega | (have hz := hb.size; (try simp at hz); omega)); have yw1_b : w.heap.size + 1 < w1.heap.size + 1 := (by omega); have yyw1_b : w.heap.size + 1 < w1.heap.size + 1 + 1 := (by omega); (try have sw1_0 : w.heap.size + 1 + 1 < w1.heap.size := (by first | omega | (have hz := hb.size; (try simp at hz); omega))); (try have syw1_0 : w.heap.size + 1 + 1 < w1.heap.size + 1 := (by omega)); (try have stw1_0 : w.heap.size + 1 + 1 + 1 < w1.heap.size := (by first | omega | (have hz := hb.size; (try simp at hz); omega))); have sxw1_0 : w.heap.size + 1 + 1 ≤ w1.heap.size := (by first | omega | (have hz := hb.size; (try simp at hz); omega)); have HBw1 : Hid (Below w.heap.size w w1) := (bl_trans (by repeat (first | with_reducible exact Below.refl _ _ | with_reducible exact Hid.out (by assumption) | with_reducible refine Below.setCell ?_ (by first | (simp; done) | omega | (simp <;> omega)) _ | with_reducible refine bl_al ?_ _ | with_reducible apply Below.drew)) hb); clear hb
  go_wp2_with fail
  (with_reducible refine (K2.out _).mono ?_); rintro e w2 ⟨rfl, hb⟩; obtain ⟨hclw2, hfrw2⟩ := bcell hb; have zw2_a : w.heap.size < w2.heap.size := (by first | omega | (have hz := hb.size; (try simp at hz); omega)); have yw2_a : w.heap.size < w2.heap.size + 1 := (by omega); have yyw2_a : w.heap.size < w2.heap.size + 1 + 1 := (by omega); have zw2_b : w.heap.size + 1 < w2.heap.size := (by first | omega | (have hz := hb.size; (try simp at hz); omega)); have yw2_b : w.heap.size + 1 < w2.heap.size + 1 := (by omega); have yyw2_b : w.heap.size + 1 < w2.heap.size + 1 + 1 := (by omega); (try have sw2_0 : w1.heap.size < w2.heap.size := (by first | omega | (have hz := hb.size; (try simp at hz); omega))); (try have syw2_0 : w1.heap.size < w2.heap.size + 1 := (by omega)); (try have stw2_0 : w1.heap.size + 1 < w2.heap.size := (by first | omega | (have hz := hb.size; (try simp at hz); omega))); have sxw2_0 : w1.heap.size ≤ w2.heap.size := (by first | omega | (have hz := hb.size; (try simp at hz); omega)); have HBw2 : Hid (Below w.heap.size w w2) := (bl_trans (by repeat (first | with_reducible exact Below.refl _ _ | with_reducible exact Hid.out (by assumption) | with_reducible refine Below.setCell ?_ (by first | (simp; done) | omega | (simp <;> omega)) _ | with_reducible refine bl_al ?_ _ | with_reducible apply Below.drew)) hb); clear hb
  go_wp2_with fail
  go_returns
  exact ⟨rfl, by repeat (first | with_reducible exact Below.refl _ _ | with_reducible exact Hid.out (by assumption) | with_reducible refine Below.setCell ?_ (by first | (simp; done) | omega | (simp <;> omega)) _ | with_reducible refine bl_al ?_ _ | with_reducible apply Below.drew)⟩
set_option maxRecDepth 20000 in
set_option maxHeartbeats 4000000 in
theorem fixSigns_out1 (a1 a0 b1 b0 : Int)  (w : World)
    (C1 : ∀ W, Calls Try.prog 14 #[.agg #[.int .i64 a1, .int .u64 a0]] W fun e w' => e = .returned (.bool true) ∧ Below W.heap.size W w')
    (C2 : ∀ W, Calls Try.prog 14 #[.agg #[.int .i64 b1, .int .u64 b0]] W fun e w' => e = .returned (.bool false) ∧ Below W.heap.size W w')
    (C3 : ∀ W, Calls Try.prog 17 #[] W fun e w' => e = .returned (.bool true) ∧ Below W.heap.size W w') :
    Calls Try.prog 5 #[.agg #[.int .i64 a1, .int .u64 a0], .agg #[.int .i64 b1, .int .u64 b0]] w fun e w' => e = .returned (.bool true) ∧ Below w.heap.size w w' := by
  have K1 := Lib.hid C1; have K2 := Lib.hid C2; have K3 := Lib.hid C3
  clear C1 C2 C3
  go_enter Try.func5, Try.ntmps5
  go_wp2_with fail
  (with_reducible refine (K1.out _).mono ?_); rintro e w1 ⟨rfl, hb⟩; obtain ⟨hclw1, hfrw1⟩ := bcell hb; have zw1_a : w.heap.size < w1.heap.size := (by first | omega | (have hz := hb.size; (try simp at hz); omega)); have yw1_a : w.heap.size < w1.heap.size + 1 := (by omega); have yyw1_a : w.heap.size < w1.heap.size + 1 + 1 := (by omega); have zw1_b : w.heap.size + 1 < w1.heap.size := (by first | omega | (have hz := hb.size; (try simp at hz); omega)); have yw1_b : w.heap.size + 1 < w1.heap.size + 1 := (by omega); have yyw1_b : w.heap.size + 1 < w1.heap.size + 1 + 1 := (by omega); (try have sw1_0 : w.heap.size + 1 + 1 < w1.heap.size := (by first | omega | (have hz := hb.size; (try simp at hz); omega))); (try have syw1_0 : w.heap.size + 1 + 1 < w1.heap.size + 1 := (by omega)); (try have stw1_0 : w.heap.size + 1 + 1 + 1 < w1.heap.size := (by first | omega | (have hz := hb.size; (try simp at hz); omega))); have sxw1_0 : w.heap.size + 1 + 1 ≤ w1.heap.size := (by first | omega | (have hz := hb.size; (try simp at hz); omega)); have HBw1 : Hid (Below w.heap.size w w1) := (bl_trans (by repeat (first | with_reducible exact Below.refl _ _ | with_reducible exact Hid.out (by assumption) | with_reducible refine Below.setCell ?_ (by first | (simp; done) | omega | (simp <;> omega)) _ | with_reducible refine bl_al ?_ _ | with_reducible apply Below.drew)) hb); clear hb
  go_wp2_with fail
  (with_reducible refine (K2.out _).mono ?_); rintro e w2 ⟨rfl, hb⟩; obtain ⟨hclw2, hfrw2⟩ := bcell hb; have zw2_a : w.heap.size < w2.heap.size := (by first | omega | (have hz := hb.size; (try simp at hz); omega)); have yw2_a : w.heap.size < w2.heap.size + 1 := (by omega); have yyw2_a : w.heap.size < w2.heap.size + 1 + 1 := (by omega); have zw2_b : w.heap.size + 1 < w2.heap.size := (by first | omega | (have hz := hb.size; (try simp at hz); omega)); have yw2_b : w.heap.size + 1 < w2.heap.size + 1 := (by omega); have yyw2_b : w.heap.size + 1 < w2.heap.size + 1 + 1 := (by omega); (try have sw2_0 : w1.heap.size < w2.heap.size := (by first | omega | (have hz := hb.size; (try simp at hz); omega))); (try have syw2_0 : w1.heap.size < w2.heap.size + 1 := (by omega)); (try have stw2_0 : w1.heap.size + 1 < w2.heap.size := (by first | omega | (have hz := hb.size; (try simp at hz); omega))); have sxw2_0 : w1.heap.size ≤ w2.heap.size := (by first | omega | (have hz := hb.size; (try simp at hz); omega)); have HBw2 : Hid (Below w.heap.size w w2) := (bl_trans (by repeat (first | with_reducible exact Below.refl _ _ | with_reducible exact Hid.out (by assumption) | with_reducible refine Below.setCell ?_ (by first | (simp; done) | omega | (simp <;> omega)) _ | with_reducible refine bl_al ?_ _ | with_reducible apply Below.drew)) hb); clear hb
  go_wp2_with fail
  (with_reducible refine (K3.out _).mono ?_); rintro e w3 ⟨rfl, hb⟩; obtain ⟨hclw3, hfrw3⟩ := bcell hb; have zw3_a : w.heap.size < w3.heap.size := (by first | omega | (have hz := hb.size; (try simp at hz); omega)); have yw3_a : w.heap.size < w3.heap.size + 1 := (by omega); have yyw3_a : w.heap.size < w3.heap.size + 1 + 1 := (by omega); have zw3_b : w.heap.size + 1 < w3.heap.size := (by first | omega | (have hz := hb.size; (try simp at hz); omega)); have yw3_b : w.heap.size + 1 < w3.heap.size + 1 := (by omega); have yyw3_b : w.heap.size + 1 < w3.heap.size + 1 + 1 := (by omega); (try have sw3_0 : w2.heap.size < w3.heap.size := (by first | omega | (have hz := hb.size; (try simp at hz); omega))); (try have syw3_0 : w2.heap.size < w3.heap.size + 1 := (by omega)); (try have stw3_0 : w2.heap.size + 1 < w3.heap.size := (by first | omega | (have hz := hb.size; (try simp at hz); omega))); have sxw3_0 : w2.heap.size ≤ w3.heap.size := (by first | omega | (have hz := hb.size; (try simp at hz); omega)); have HBw3 : Hid (Below w.heap.size w w3) := (bl_trans (by repeat (first | with_reducible exact Below.refl _ _ | with_reducible exact Hid.out (by assumption) | with_reducible refine Below.setCell ?_ (by first | (simp; done) | omega | (simp <;> omega)) _ | with_reducible refine bl_al ?_ _ | with_reducible apply Below.drew)) hb); clear hb
  go_wp2_with fail
  go_returns
  exact ⟨rfl, by repeat (first | with_reducible exact Below.refl _ _ | with_reducible exact Hid.out (by assumption) | with_reducible refine Below.setCell ?_ (by first | (simp; done) | omega | (simp <;> omega)) _ | with_reducible refine bl_al ?_ _ | with_reducible apply Below.drew)⟩
set_option maxRecDepth 20000 in
set_option maxHeartbeats 4000000 in
theorem fixSigns_core (a1 a0 b1 b0 c1 c0 d1 d0 m1 m0 n1 n0 q1 q0 r1 r0 s1 s0 t1 t0 h1 h0 i1 i0 e1 e2 e3 k1 k2 : Int) (u1 : IntKind.i64.wrap (-k2) = k1) (w : World)
    (C1 : ∀ W, Calls Try.prog 14 #[.agg #[.int .i64 a1, .int .u64 a0]] W fun e w' => e = .returned (.bool true) ∧ Below W.heap.size W w')
    (C2 : ∀ W, Calls Try.prog 14 #[.agg #[.int .i64 b1, .int .u64 b0]] W fun e w' => e = .returned (.bool true) ∧ Below W.heap.size W w')
    (C3 : ∀ W, Calls Try.prog 20 #[.agg #[.int .i64 a1, .int .u64 a0], .agg #[.int .i64 b1, .int .u64 b0]] W fun e w' => e = .returned (.tuple #[.agg #[.int .i64 m1, .int .u64 m0], .int .i64 e1]) ∧ Below W.heap.size W w')
    (C4 : ∀ W, Calls Try.prog 30 #[.agg #[.int .i64 a1, .int .u64 a0]] W fun e w' => e = .returned (.agg #[.int .i64 c1, .int .u64 c0]) ∧ Below W.heap.size W w')
    (C5 : ∀ W, Calls Try.prog 20 #[.agg #[.int .i64 c1, .int .u64 c0], .agg #[.int .i64 b1, .int .u64 b0]] W fun e w' => e = .returned (.tuple #[.agg #[.int .i64 n1, .int .u64 n0], .int .i64 e1]) ∧ Below W.heap.size W w')
    (C6 : ∀ W, Calls Try.prog 30 #[.agg #[.int .i64 b1, .int .u64 b0]] W fun e w' => e = .returned (.agg #[.int .i64 d1, .int .u64 d0]) ∧ Below W.heap.size W w')
    (C7 : ∀ W, Calls Try.prog 20 #[.agg #[.int .i64 c1, .int .u64 c0], .agg #[.int .i64 d1, .int .u64 d0]] W fun e w' => e = .returned (.tuple #[.agg #[.int .i64 m1, .int .u64 m0], .int .i64 e1]) ∧ Below W.heap.size W w')
    (C8 : ∀ W, Calls Try.prog 21 #[.agg #[.int .i64 a1, .int .u64 a0], .agg #[.int .i64 b1, .int .u64 b0]] W fun e w' => e = .returned (.tuple #[.agg #[.int .i64 q1, .int .u64 q0], .int .i64 e2]) ∧ Below W.heap.size W w')
    (C9 : ∀ W, Calls Try.prog 21 #[.agg #[.int .i64 a1, .int .u64 a0], .agg #[.int .i64 d1, .int .u64 d0]] W fun e w' => e = .returned (.tuple #[.agg #[.int .i64 r1, .int .u64 r0], .int .i64 e2]) ∧ Below W.heap.size W w')
    (C10 : ∀ W, Calls Try.prog 18 #[.agg #[.int .i64 c1, .int .u64 c0], .agg #[.int .i64 d1, .int .u64 d0]] W fun e w' => e = .returned (.tuple #[.agg #[.int .i64 t1, .int .u64 t0], .int .i64 e3]) ∧ Below W.heap.size W w')
    (C11 : ∀ W, Calls Try.prog 18 #[.agg #[.int .i64 a1, .int .u64 a0], .agg #[.int .i64 b1, .int .u64 b0]] W fun e w' => e = .returned (.tuple #[.agg #[.int .i64 s1, .int .u64 s0], .int .i64 e3]) ∧ Below W.heap.size W w')
    (C12 : ∀ W, Calls Try.prog 30 #[.agg #[.int .i64 m1, .int .u64 m0]] W fun e w' => e = .returned (.agg #[.int .i64 n1, .int .u64 n0]) ∧ Below W.heap.size W w')
    (C13 : ∀ W, Calls Try.prog 30 #[.agg #[.int .i64 q1, .int .u64 q0]] W fun e w' => e = .returned (.agg #[.int .i64 r1, .int .u64 r0]) ∧ Below W.heap.size W w')
    (C14 : ∀ W, Calls Try.prog 30 #[.agg #[.int .i64 s1, .int .u64 s0]] W fun e w' => e = .returned (.agg #[.int .i64 t1, .int .u64 t0]) ∧ Below W.heap.size W w')
    (C15 : ∀ W, Calls Try.prog 30 #[.agg #[.int .i64 c1, .int .u64 c0]] W fun e w' => e = .returned (.agg #[.int .i64 a1, .int .u64 a0]) ∧ Below W.heap.size W w')
    (C16 : ∀ W, Calls Try.prog 32 #[.agg #[.int .i64 c1, .int .u64 c0]] W fun e w' => e = .returned (.agg #[.int .i64 i1, .int .u64 i0]) ∧ Below W.heap.size W w')
    (C17 : ∀ W, Calls Try.prog 32 #[.agg #[.int .i64 a1, .int .u64 a0]] W fun e w' => e = .returned (.agg #[.int .i64 h1, .int .u64 h0]) ∧ Below W.heap.size W w')
    (C18 : ∀ W, Calls Try.prog 30 #[.agg #[.int .i64 h1, .int .u64 h0]] W fun e w' => e = .returned (.agg #[.int .i64 i1, .int .u64 i0]) ∧ Below W.heap.size W w')
    (C19 : ∀ W, Calls Try.prog 35 #[.agg #[.int .i64 c1, .int .u64 c0]] W fun e w' => e = .returned (.int .i64 k1) ∧ Below W.heap.size W w')
    (C20 : ∀ W, Calls Try.prog 35 #[.agg #[.int .i64 a1, .int .u64 a0]] W fun e w' => e = .returned (.int .i64 k2) ∧ Below W.heap.size W w')
    (C21 : ∀ W, Calls Try.prog 17 #[] W fun e w' => e = .returned (.bool true) ∧ Below W.heap.size W w') :
    Calls Try.prog 5 #[.agg #[.int .i64 a1, .int .u64 a0], .agg #[.int .i64 b1, .int .u64 b0]] w fun e w' => e = .returned (.bool true) ∧ Below w.heap.size w w' := by
  have K1 := Lib.hid C1; have K2 := Lib.hid C2; have K3 := Lib.hid C3; have K4 := Lib.hid C4; have K5 := Lib.hid C5; have K6 := Lib.hid C6; have K7 := Lib.hid C7; have K8 := Lib.hid C8; have K9 := Lib.hid C9; have K10 := Lib.hid C10; have K11 := Lib.hid C11; have K12 := Lib.hid C12; have K13 := Lib.hid C13; have K14 := Lib.hid C14; have K15 := Lib.hid C15; have K16 := Lib.hid C16; have K17 := Lib.hid C17; have K18 := Lib.hid C18; have K19 := Lib.hid C19; have K20 := Lib.hid C20; have K21 := Lib.hid C21
  clear C1 C2 C3 C4 C5 C6 C7 C8 C9 C10 C11 C12 C13 C14 C15 C16 C17 C18 C19 C20 C21
  have eqf1 := eq_fix_true n1 n0; have eqf2 := eq_fix_true m1 m0; have eqf3 := eq_fix_true r1 r0; have eqf4 := eq_fix_true t1 t0; have eqf5 := eq_fix_true a1 a0; have eqf6 := eq_fix_true i1 i0
  go_enter Try.func5, Try.ntmps5
  go_wp2_with fail
  (with_reducible refine (K1.out _).mono ?_); rintro e w1 ⟨rfl, hb⟩; obtain ⟨hclw1, hfrw1⟩ := bcell hb; have zw1_a : w.heap.size < w1.heap.size := (by first | omega | (have hz := hb.size; (try simp at hz); omega)); have yw1_a : w.heap.size < w1.heap.size + 1 := (by omega); have yyw1_a : w.heap.size < w1.heap.size + 1 + 1 := (by omega); have zw1_b : w.heap.size + 1 < w1.heap.size := (by first | omega | (have hz := hb.size; (try simp at hz); omega)); have yw1_b : w.heap.size + 1 < w1.heap.size + 1 := (by omega); have yyw1_b : w.heap.size + 1 < w1.heap.size + 1 + 1 := (by omega); have sxw1_0 : w.heap.size + 1 + 1 ≤ w1.heap.size := (by first | omega | (have hz := hb.size; (try simp at hz); omega)); have HBw1 : Hid (Below w.heap.size w w1) := (bl_trans (by repeat (first | with_reducible exact Below.refl _ _ | with_reducible exact Hid.out (by assumption) | with_reducible refine Below.setCell ?_ (by first | (simp; done) | omega | (simp <;> omega)) _ | with_reducible refine bl_al ?_ _ | with_reducible apply Below.drew)) hb); clear hb
  go_wp2_with fail
  (with_reducible refine (K2.out _).mono ?_); rintro e w2 ⟨rfl, hb⟩; obtain ⟨hclw2, hfrw2⟩ := bcell hb; have zw2_a : w.heap.size < w2.heap.size := (by first | omega | (have hz := hb.size; (try simp at hz); omega)); have yw2_a : w.heap.size < w2.heap.size + 1 := (by omega); have yyw2_a : w.heap.size < w2.heap.size + 1 + 1 := (by omega); have zw2_b : w.heap.size + 1 < w2.heap.size := (by first | omega | (have hz := hb.size; (try simp at hz); omega)); have yw2_b : w.heap.size + 1 < w2.heap.size + 1 := (by omega); have yyw2_b : w.heap.size + 1 < w2.heap.size + 1 + 1 := (by omega); have sxw2_0 : w1.heap.size ≤ w2.heap.size := (by first | omega | (have hz := hb.size; (try simp at hz); omega)); have HBw2 : Hid (Below w.heap.size w w2) := (bl_trans (by repeat (first | with_reducible exact Below.refl _ _ | with_reducible exact Hid.out (by assumption) | with_reducible refine Below.setCell ?_ (by first | (simp; done) | omega | (simp <;> omega)) _ | with_reducible refine bl_al ?_ _ | with_reducible apply Below.drew)) hb); clear hb
  go_wp2_with fail
  (with_reducible refine (K3.out _).mono ?_); rintro e w3 ⟨rfl, hb⟩; obtain ⟨hclw3, hfrw3⟩ := bcell hb; have zw3_a : w.heap.size < w3.heap.size := (by first | omega | (have hz := hb.size; (try simp at hz); omega)); have yw3_a : w.heap.size < w3.heap.size + 1 := (by omega); have yyw3_a : w.heap.size < w3.heap.size + 1 + 1 := (by omega); have zw3_b : w.heap.size + 1 < w3.heap.size := (by first | omega | (have hz := hb.size; (try simp at hz); omega)); have yw3_b : w.heap.size + 1 < w3.heap.size + 1 := (by omega); have yyw3_b : w.heap.size + 1 < w3.heap.size + 1 + 1 := (by omega); have sxw3_0 : w2.heap.size ≤ w3.heap.size := (by first | omega | (have hz := hb.size; (try simp at hz); omega)); have HBw3 : Hid (Below w.heap.size w w3) := (bl_trans (by repeat (first | with_reducible exact Below.refl _ _ | with_reducible exact Hid.out (by assumption) | with_reducible refine Below.setCell ?_ (by first | (simp; done) | omega | (simp <;> omega)) _ | with_reducible refine bl_al ?_ _ | with_reducible apply Below.drew)) hb); clear hb
  go_upto_region 4 with fail
  refine name_world (P := fun W => Code.wp _ _ _ _ W) _ (fun R1 hR1 => ?_)
  have zR1_a : w.heap.size < R1.heap.size := by rw [hR1]; first | omega | (simp <;> omega)
  have yR1_a : w.heap.size < R1.heap.size + 1 := by omega
  have yyR1_a : w.heap.size < R1.heap.size + 1 + 1 := by omega
  have cR1_a_0 : R1.cell? ⟨w.heap.size, 0, none⟩ = some (.int .i64 a1) := by rw [hR1]; first | assumption | (simp [go_sem, *]; done)
  have cR1_a_1 : R1.cell? ⟨w.heap.size, 1, none⟩ = some (.int .u64 a0) := by rw [hR1]; first | assumption | (simp [go_sem, *]; done)
  have zR1_b : w.heap.size + 1 < R1.heap.size := by rw [hR1]; first | omega | (simp <;> omega)
  have yR1_b : w.heap.size + 1 < R1.heap.size + 1 := by omega
  have yyR1_b : w.heap.size + 1 < R1.heap.size + 1 + 1 := by omega
  have cR1_b_0 : R1.cell? ⟨w.heap.size + 1, 0, none⟩ = some (.int .i64 b1) := by rw [hR1]; first | assumption | (simp [go_sem, *]; done)
  have cR1_b_1 : R1.cell? ⟨w.heap.size + 1, 1, none⟩ = some (.int .u64 b0) := by rw [hR1]; first | assumption | (simp [go_sem, *]; done)
  have zR1_m : w3.heap.size < R1.heap.size := by rw [hR1]; first | omega | (simp <;> omega)
  have yR1_m : w3.heap.size < R1.heap.size + 1 := by omega
  have yyR1_m : w3.heap.size < R1.heap.size + 1 + 1 := by omega
  have cR1_m_0 : R1.cell? ⟨w3.heap.size, 0, none⟩ = some (.int .i64 m1) := by rw [hR1]; first | assumption | (simp [go_sem, *]; done)
  have cR1_m_1 : R1.cell? ⟨w3.heap.size, 1, none⟩ = some (.int .u64 m0) := by rw [hR1]; first | assumption | (simp [go_sem, *]; done)
  have HBR1 : Hid (Below w.heap.size w R1) := by rw [hR1]; show Below _ _ _; exact (by repeat (first | with_reducible exact Below.refl _ _ | with_reducible exact Hid.out (by assumption) | with_reducible refine Below.setCell ?_ (by first | (simp; done) | omega | (simp <;> omega)) _ | with_reducible refine bl_al ?_ _ | with_reducible apply Below.drew))
  clear hR1
  clear zw1_a yw1_a yyw1_a zw1_b yw1_b yyw1_b sxw1_0 hclw1 hfrw1 HBw1 zw2_a yw2_a yyw2_a zw2_b yw2_b yyw2_b sxw2_0 hclw2 hfrw2 HBw2 zw3_a yw3_a yyw3_a zw3_b yw3_b yyw3_b sxw3_0 hclw3 hfrw3 HBw3
  go_cut [7, 8] (fun slot0 slot1 X1 => ∃ bX1n : Nat, slot0 = .pointer (some ⟨bX1n, 0, none⟩) ∧ slot1 = .int .i64 e1 ∧ R1.heap.size ≤ bX1n ∧ Below R1.heap.size R1 X1 ∧ Has (bX1n) [.int .i64 n1, .int .u64 n0] X1)
  case first =>
    clear HBR1
    have ltt : ∀ n : Nat, n < n + 1 + 1 := fun n => by omega
    have lttt : ∀ n : Nat, n + 1 < n + 1 + 1 := fun n => by omega
    go_region_held3 (fun w' => w'.cell? ⟨w.heap.size, 0, none⟩ = some (.int .i64 a1) ∧ w'.cell? ⟨w.heap.size, 1, none⟩ = some (.int .u64 a0) ∧ w'.cell? ⟨w.heap.size + 1, 0, none⟩ = some (.int .i64 b1) ∧ w'.cell? ⟨w.heap.size + 1, 1, none⟩ = some (.int .u64 b0)) (first | (simp [*, go_sem]; done) | (simp [*, go_sem, World.cell?_alloc_past]; done))
      (first
        | (go_at_call 30; (with_reducible refine (K4.out _).mono ?_); rintro e w4 ⟨rfl, hb⟩; (first | (with_reducible (obtain ⟨hclw4, hfrw4⟩ := bcell_drew hb)) | (obtain ⟨hclw4, hfrw4⟩ := bcell hb)); have zw4_a : w.heap.size < w4.heap.size := (by first | omega | (have hz := hb.size; (try simp at hz); omega)); have yw4_a : w.heap.size < w4.heap.size + 1 := (by omega); have yyw4_a : w.heap.size < w4.heap.size + 1 + 1 := (by omega); have zw4_b : w.heap.size + 1 < w4.heap.size := (by first | omega | (have hz := hb.size; (try simp at hz); omega)); have yw4_b : w.heap.size + 1 < w4.heap.size + 1 := (by omega); have yyw4_b : w.heap.size + 1 < w4.heap.size + 1 + 1 := (by omega); (try have sw4_0 : R1.heap.size < w4.heap.size := (by first | omega | (have hz := hb.size; (try simp at hz); omega))); (try have syw4_0 : R1.heap.size < w4.heap.size + 1 := (by omega)); (try have stw4_0 : R1.heap.size + 1 < w4.heap.size := (by first | omega | (have hz := hb.size; (try simp at hz); omega))); have sxw4_0 : R1.heap.size ≤ w4.heap.size := (by first | omega | (have hz := hb.size; (try simp at hz); omega)); have HBw4 : Hid (Below R1.heap.size R1 w4) := (bl_trans (by repeat (first | with_reducible exact Below.refl _ _ | with_reducible exact Hid.out (by assumption) | with_reducible refine Below.setCell ?_ (by first | (simp; done) | omega | (simp <;> omega)) _ | with_reducible refine bl_al ?_ _ | with_reducible apply Below.drew)) hb); clear hb; clear K4)
        | (go_at_call 20; (with_reducible refine (K5.out _).mono ?_); rintro e w5 ⟨rfl, hb⟩; obtain ⟨hclw5, hfrw5⟩ := bcell hb; have zw5_a : w.heap.size < w5.heap.size := (by first | omega | (have hz := hb.size; (try simp at hz); omega)); have yw5_a : w.heap.size < w5.heap.size + 1 := (by omega); have yyw5_a : w.heap.size < w5.heap.size + 1 + 1 := (by omega); have zw5_b : w.heap.size + 1 < w5.heap.size := (by first | omega | (have hz := hb.size; (try simp at hz); omega)); have yw5_b : w.heap.size + 1 < w5.heap.size + 1 := (by omega); have yyw5_b : w.heap.size + 1 < w5.heap.size + 1 + 1 := (by omega); (try have sw5_0 : R1.heap.size < w5.heap.size := (by first | omega | (have hz := hb.size; (try simp at hz); omega))); (try have syw5_0 : R1.heap.size < w5.heap.size + 1 := (by omega)); (try have stw5_0 : R1.heap.size + 1 < w5.heap.size := (by first | omega | (have hz := hb.size; (try simp at hz); omega))); have sxw5_0 : R1.heap.size ≤ w5.heap.size := (by first | omega | (have hz := hb.size; (try simp at hz); omega)); (try have sw5_w4 : w4.heap.size < w5.heap.size := (by first | omega | (have hz := hb.size; (try simp at hz); omega))); (try have syw5_w4 : w4.heap.size < w5.heap.size + 1 := (by omega)); (try have stw5_w4 : w4.heap.size + 1 < w5.heap.size := (by first | omega | (have hz := hb.size; (try simp at hz); omega))); have sxw5_w4 : w4.heap.size ≤ w5.heap.size := (by first | omega | (have hz := hb.size; (try simp at hz); omega)); have HBw5 : Hid (Below R1.heap.size R1 w5) := (bl_trans (by repeat (first | with_reducible exact Below.refl _ _ | with_reducible exact Hid.out (by assumption) | with_reducible refine Below.setCell ?_ (by first | (simp; done) | omega | (simp <;> omega)) _ | with_reducible refine bl_al ?_ _ | with_reducible apply Below.drew)) hb); clear hb; clear K5))
    all_goals (rename_i hHeld; clear hHeld; go_wp2_with fail; go_meet; exact ⟨_, rfl, rfl, (by first | omega | (simp <;> omega)), (by repeat (first | with_reducible exact Below.refl _ _ | with_reducible exact Hid.out (by assumption) | with_reducible refine Below.setCell ?_ (by first | (simp; done) | omega | (simp <;> omega)) _ | with_reducible refine bl_al ?_ _ | with_reducible apply Below.drew)), Has.mk2 (by first | (simp <;> omega) | omega) (by simp [go_sem, *]) (by simp [go_sem, *])⟩)
  case rest =>
  obtain ⟨X1, hX1⟩ : ∃ X, X = wc := ⟨wc, rfl⟩
  subst hX1
  obtain ⟨bX1n, rfl, rfl, m_bX1n, hX, g_n⟩ := hcut
  have zX1_a : w.heap.size < X1.heap.size := Nat.lt_of_lt_of_le zR1_a hX.size
  have cX1_a_0 : X1.cell? ⟨w.heap.size, 0, none⟩ = some (.int .i64 a1) := by rw [(bcell hX).1 _ _ zR1_a]; exact cR1_a_0
  have cX1_a_1 : X1.cell? ⟨w.heap.size, 1, none⟩ = some (.int .u64 a0) := by rw [(bcell hX).1 _ _ zR1_a]; exact cR1_a_1
  have zX1_b : w.heap.size + 1 < X1.heap.size := Nat.lt_of_lt_of_le zR1_b hX.size
  have cX1_b_0 : X1.cell? ⟨w.heap.size + 1, 0, none⟩ = some (.int .i64 b1) := by rw [(bcell hX).1 _ _ zR1_b]; exact cR1_b_0
  have cX1_b_1 : X1.cell? ⟨w.heap.size + 1, 1, none⟩ = some (.int .u64 b0) := by rw [(bcell hX).1 _ _ zR1_b]; exact cR1_b_1
  have zX1_m : w3.heap.size < X1.heap.size := Nat.lt_of_lt_of_le zR1_m hX.size
  have cX1_m_0 : X1.cell? ⟨w3.heap.size, 0, none⟩ = some (.int .i64 m1) := by rw [(bcell hX).1 _ _ zR1_m]; exact cR1_m_0
  have cX1_m_1 : X1.cell? ⟨w3.heap.size, 1, none⟩ = some (.int .u64 m0) := by rw [(bcell hX).1 _ _ zR1_m]; exact cR1_m_1
  have zX1_n := g_n.1; have cX1_n_0 := g_n.2 0 _ rfl; have cX1_n_1 := g_n.2 1 _ rfl; clear g_n
  have HBX1 : Hid (Below w.heap.size w X1) := bl_trans HBR1.out hX
  clear hX
  clear zR1_a yR1_a yyR1_a cR1_a_0 cR1_a_1 zR1_b yR1_b yyR1_b cR1_b_0 cR1_b_1 zR1_m yR1_m yyR1_m cR1_m_0 cR1_m_1 HBR1 m_bX1n
  go_upto_region 5 with fail
  refine name_world (P := fun W => Code.wp _ _ _ _ W) _ (fun R2 hR2 => ?_)
  have zR2_a : w.heap.size < R2.heap.size := by rw [hR2]; first | omega | (simp <;> omega)
  have yR2_a : w.heap.size < R2.heap.size + 1 := by omega
  have yyR2_a : w.heap.size < R2.heap.size + 1 + 1 := by omega
  have cR2_a_0 : R2.cell? ⟨w.heap.size, 0, none⟩ = some (.int .i64 a1) := by rw [hR2]; first | assumption | (simp [go_sem, *]; done)
  have cR2_a_1 : R2.cell? ⟨w.heap.size, 1, none⟩ = some (.int .u64 a0) := by rw [hR2]; first | assumption | (simp [go_sem, *]; done)
  have zR2_b : w.heap.size + 1 < R2.heap.size := by rw [hR2]; first | omega | (simp <;> omega)
  have yR2_b : w.heap.size + 1 < R2.heap.size + 1 := by omega
  have yyR2_b : w.heap.size + 1 < R2.heap.size + 1 + 1 := by omega
  have cR2_b_0 : R2.cell? ⟨w.heap.size + 1, 0, none⟩ = some (.int .i64 b1) := by rw [hR2]; first | assumption | (simp [go_sem, *]; done)
  have cR2_b_1 : R2.cell? ⟨w.heap.size + 1, 1, none⟩ = some (.int .u64 b0) := by rw [hR2]; first | assumption | (simp [go_sem, *]; done)
  have zR2_m : w3.heap.size < R2.heap.size := by rw [hR2]; first | omega | (simp <;> omega)
  have yR2_m : w3.heap.size < R2.heap.size + 1 := by omega
  have yyR2_m : w3.heap.size < R2.heap.size + 1 + 1 := by omega
  have cR2_m_0 : R2.cell? ⟨w3.heap.size, 0, none⟩ = some (.int .i64 m1) := by rw [hR2]; first | assumption | (simp [go_sem, *]; done)
  have cR2_m_1 : R2.cell? ⟨w3.heap.size, 1, none⟩ = some (.int .u64 m0) := by rw [hR2]; first | assumption | (simp [go_sem, *]; done)
  have zR2_n : bX1n < R2.heap.size := by rw [hR2]; first | omega | (simp <;> omega)
  have yR2_n : bX1n < R2.heap.size + 1 := by omega
  have yyR2_n : bX1n < R2.heap.size + 1 + 1 := by omega
  have cR2_n_0 : R2.cell? ⟨bX1n, 0, none⟩ = some (.int .i64 n1) := by rw [hR2]; first | assumption | (simp [go_sem, *]; done)
  have cR2_n_1 : R2.cell? ⟨bX1n, 1, none⟩ = some (.int .u64 n0) := by rw [hR2]; first | assumption | (simp [go_sem, *]; done)
  have HBR2 : Hid (Below w.heap.size w R2) := by rw [hR2]; show Below _ _ _; exact (by repeat (first | with_reducible exact Below.refl _ _ | with_reducible exact Hid.out (by assumption) | with_reducible refine Below.setCell ?_ (by first | (simp; done) | omega | (simp <;> omega)) _ | with_reducible refine bl_al ?_ _ | with_reducible apply Below.drew))
  clear hR2
  clear HBX1 zX1_a cX1_a_0 cX1_a_1 zX1_b cX1_b_0 cX1_b_1 zX1_m cX1_m_0 cX1_m_1 zX1_n cX1_n_0 cX1_n_1
  go_cut [9, 10] (fun slot0 slot1 X2 => ∃ bX2o : Nat, slot0 = .pointer (some ⟨bX2o, 0, none⟩) ∧ slot1 = .int .i64 e1 ∧ R2.heap.size ≤ bX2o ∧ Below R2.heap.size R2 X2 ∧ Has (bX2o) [.int .i64 m1, .int .u64 m0] X2)
  case first =>
    clear HBR2
    have ltt : ∀ n : Nat, n < n + 1 + 1 := fun n => by omega
    have lttt : ∀ n : Nat, n + 1 < n + 1 + 1 := fun n => by omega
    go_region_held3 (fun w' => w'.cell? ⟨w.heap.size, 0, none⟩ = some (.int .i64 a1) ∧ w'.cell? ⟨w.heap.size, 1, none⟩ = some (.int .u64 a0) ∧ w'.cell? ⟨w.heap.size + 1, 0, none⟩ = some (.int .i64 b1) ∧ w'.cell? ⟨w.heap.size + 1, 1, none⟩ = some (.int .u64 b0)) (first | (simp [*, go_sem]; done) | (simp [*, go_sem, World.cell?_alloc_past]; done))
      (first
        | (go_at_call 30; (with_reducible refine (K4.out _).mono ?_); rintro e w6 ⟨rfl, hb⟩; (first | (with_reducible (obtain ⟨hclw6, hfrw6⟩ := bcell_drew hb)) | (obtain ⟨hclw6, hfrw6⟩ := bcell hb)); have zw6_a : w.heap.size < w6.heap.size := (by first | omega | (have hz := hb.size; (try simp at hz); omega)); have yw6_a : w.heap.size < w6.heap.size + 1 := (by omega); have yyw6_a : w.heap.size < w6.heap.size + 1 + 1 := (by omega); have zw6_b : w.heap.size + 1 < w6.heap.size := (by first | omega | (have hz := hb.size; (try simp at hz); omega)); have yw6_b : w.heap.size + 1 < w6.heap.size + 1 := (by omega); have yyw6_b : w.heap.size + 1 < w6.heap.size + 1 + 1 := (by omega); (try have sw6_0 : R2.heap.size < w6.heap.size := (by first | omega | (have hz := hb.size; (try simp at hz); omega))); (try have syw6_0 : R2.heap.size < w6.heap.size + 1 := (by omega)); (try have stw6_0 : R2.heap.size + 1 < w6.heap.size := (by first | omega | (have hz := hb.size; (try simp at hz); omega))); have sxw6_0 : R2.heap.size ≤ w6.heap.size := (by first | omega | (have hz := hb.size; (try simp at hz); omega)); have HBw6 : Hid (Below R2.heap.size R2 w6) := (bl_trans (by repeat (first | with_reducible exact Below.refl _ _ | with_reducible exact Hid.out (by assumption) | with_reducible refine Below.setCell ?_ (by first | (simp; done) | omega | (simp <;> omega)) _ | with_reducible refine bl_al ?_ _ | with_reducible apply Below.drew)) hb); clear hb; clear K4)
        | (go_at_call 30; (with_reducible refine (K6.out _).mono ?_); rintro e w7 ⟨rfl, hb⟩; obtain ⟨hclw7, hfrw7⟩ := bcell hb; have zw7_a : w.heap.size < w7.heap.size := (by first | omega | (have hz := hb.size; (try simp at hz); omega)); have yw7_a : w.heap.size < w7.heap.size + 1 := (by omega); have yyw7_a : w.heap.size < w7.heap.size + 1 + 1 := (by omega); have zw7_b : w.heap.size + 1 < w7.heap.size := (by first | omega | (have hz := hb.size; (try simp at hz); omega)); have yw7_b : w.heap.size + 1 < w7.heap.size + 1 := (by omega); have yyw7_b : w.heap.size + 1 < w7.heap.size + 1 + 1 := (by omega); (try have sw7_0 : R2.heap.size < w7.heap.size := (by first | omega | (have hz := hb.size; (try simp at hz); omega))); (try have syw7_0 : R2.heap.size < w7.heap.size + 1 := (by omega)); (try have stw7_0 : R2.heap.size + 1 < w7.heap.size := (by first | omega | (have hz := hb.size; (try simp at hz); omega))); have sxw7_0 : R2.heap.size ≤ w7.heap.size := (by first | omega | (have hz := hb.size; (try simp at hz); omega)); (try have sw7_w6 : w6.heap.size < w7.heap.size := (by first | omega | (have hz := hb.size; (try simp at hz); omega))); (try have syw7_w6 : w6.heap.size < w7.heap.size + 1 := (by omega)); (try have stw7_w6 : w6.heap.size + 1 < w7.heap.size := (by first | omega | (have hz := hb.size; (try simp at hz); omega))); have sxw7_w6 : w6.heap.size ≤ w7.heap.size := (by first | omega | (have hz := hb.size; (try simp at hz); omega)); have HBw7 : Hid (Below R2.heap.size R2 w7) := (bl_trans (by repeat (first | with_reducible exact Below.refl _ _ | with_reducible exact Hid.out (by assumption) | with_reducible refine Below.setCell ?_ (by first | (simp; done) | omega | (simp <;> omega)) _ | with_reducible refine bl_al ?_ _ | with_reducible apply Below.drew)) hb); clear hb; clear K6)
        | (go_at_call 20; (with_reducible refine (K7.out _).mono ?_); rintro e w8 ⟨rfl, hb⟩; obtain ⟨hclw8, hfrw8⟩ := bcell hb; have zw8_a : w.heap.size < w8.heap.size := (by first | omega | (have hz := hb.size; (try simp at hz); omega)); have yw8_a : w.heap.size < w8.heap.size + 1 := (by omega); have yyw8_a : w.heap.size < w8.heap.size + 1 + 1 := (by omega); have zw8_b : w.heap.size + 1 < w8.heap.size := (by first | omega | (have hz := hb.size; (try simp at hz); omega)); have yw8_b : w.heap.size + 1 < w8.heap.size + 1 := (by omega); have yyw8_b : w.heap.size + 1 < w8.heap.size + 1 + 1 := (by omega); (try have sw8_0 : R2.heap.size < w8.heap.size := (by first | omega | (have hz := hb.size; (try simp at hz); omega))); (try have syw8_0 : R2.heap.size < w8.heap.size + 1 := (by omega)); (try have stw8_0 : R2.heap.size + 1 < w8.heap.size := (by first | omega | (have hz := hb.size; (try simp at hz); omega))); have sxw8_0 : R2.heap.size ≤ w8.heap.size := (by first | omega | (have hz := hb.size; (try simp at hz); omega)); (try have sw8_w6 : w6.heap.size < w8.heap.size := (by first | omega | (have hz := hb.size; (try simp at hz); omega))); (try have syw8_w6 : w6.heap.size < w8.heap.size + 1 := (by omega)); (try have stw8_w6 : w6.heap.size + 1 < w8.heap.size := (by first | omega | (have hz := hb.size; (try simp at hz); omega))); have sxw8_w6 : w6.heap.size ≤ w8.heap.size := (by first | omega | (have hz := hb.size; (try simp at hz); omega)); (try have sw8_w7 : w7.heap.size < w8.heap.size := (by first | omega | (have hz := hb.size; (try simp at hz); omega))); (try have syw8_w7 : w7.heap.size < w8.heap.size + 1 := (by omega)); (try have stw8_w7 : w7.heap.size + 1 < w8.heap.size := (by first | omega | (have hz := hb.size; (try simp at hz); omega))); have sxw8_w7 : w7.heap.size ≤ w8.heap.size := (by first | omega | (have hz := hb.size; (try simp at hz); omega)); have HBw8 : Hid (Below R2.heap.size R2 w8) := (bl_trans (by repeat (first | with_reducible exact Below.refl _ _ | with_reducible exact Hid.out (by assumption) | with_reducible refine Below.setCell ?_ (by first | (simp; done) | omega | (simp <;> omega)) _ | with_reducible refine bl_al ?_ _ | with_reducible apply Below.drew)) hb); clear hb; clear K7))
    all_goals (rename_i hHeld; clear hHeld; go_wp2_with fail; go_meet; exact ⟨_, rfl, rfl, (by first | omega | (simp <;> omega)), (by repeat (first | with_reducible exact Below.refl _ _ | with_reducible exact Hid.out (by assumption) | with_reducible refine Below.setCell ?_ (by first | (simp; done) | omega | (simp <;> omega)) _ | with_reducible refine bl_al ?_ _ | with_reducible apply Below.drew)), Has.mk2 (by first | (simp <;> omega) | omega) (by simp [go_sem, *]) (by simp [go_sem, *])⟩)
  case rest =>
  obtain ⟨X2, hX2⟩ : ∃ X, X = wc := ⟨wc, rfl⟩
  subst hX2
  obtain ⟨bX2o, rfl, rfl, m_bX2o, hX, g_o⟩ := hcut
  have zX2_a : w.heap.size < X2.heap.size := Nat.lt_of_lt_of_le zR2_a hX.size
  have cX2_a_0 : X2.cell? ⟨w.heap.size, 0, none⟩ = some (.int .i64 a1) := by rw [(bcell hX).1 _ _ zR2_a]; exact cR2_a_0
  have cX2_a_1 : X2.cell? ⟨w.heap.size, 1, none⟩ = some (.int .u64 a0) := by rw [(bcell hX).1 _ _ zR2_a]; exact cR2_a_1
  have zX2_b : w.heap.size + 1 < X2.heap.size := Nat.lt_of_lt_of_le zR2_b hX.size
  have cX2_b_0 : X2.cell? ⟨w.heap.size + 1, 0, none⟩ = some (.int .i64 b1) := by rw [(bcell hX).1 _ _ zR2_b]; exact cR2_b_0
  have cX2_b_1 : X2.cell? ⟨w.heap.size + 1, 1, none⟩ = some (.int .u64 b0) := by rw [(bcell hX).1 _ _ zR2_b]; exact cR2_b_1
  have zX2_m : w3.heap.size < X2.heap.size := Nat.lt_of_lt_of_le zR2_m hX.size
  have cX2_m_0 : X2.cell? ⟨w3.heap.size, 0, none⟩ = some (.int .i64 m1) := by rw [(bcell hX).1 _ _ zR2_m]; exact cR2_m_0
  have cX2_m_1 : X2.cell? ⟨w3.heap.size, 1, none⟩ = some (.int .u64 m0) := by rw [(bcell hX).1 _ _ zR2_m]; exact cR2_m_1
  have zX2_n : bX1n < X2.heap.size := Nat.lt_of_lt_of_le zR2_n hX.size
  have cX2_n_0 : X2.cell? ⟨bX1n, 0, none⟩ = some (.int .i64 n1) := by rw [(bcell hX).1 _ _ zR2_n]; exact cR2_n_0
  have cX2_n_1 : X2.cell? ⟨bX1n, 1, none⟩ = some (.int .u64 n0) := by rw [(bcell hX).1 _ _ zR2_n]; exact cR2_n_1
  have zX2_o := g_o.1; have cX2_o_0 := g_o.2 0 _ rfl; have cX2_o_1 := g_o.2 1 _ rfl; clear g_o
  have HBX2 : Hid (Below w.heap.size w X2) := bl_trans HBR2.out hX
  clear hX
  clear zR2_a yR2_a yyR2_a cR2_a_0 cR2_a_1 zR2_b yR2_b yyR2_b cR2_b_0 cR2_b_1 zR2_m yR2_m yyR2_m cR2_m_0 cR2_m_1 zR2_n yR2_n yyR2_n cR2_n_0 cR2_n_1 HBR2 m_bX2o
  go_wp2_with fail
  (with_reducible refine (K8.out _).mono ?_); rintro e w9 ⟨rfl, hb⟩; obtain ⟨hclw9, hfrw9⟩ := bcell hb; have zw9_a : w.heap.size < w9.heap.size := (by first | omega | (have hz := hb.size; (try simp at hz); omega)); have yw9_a : w.heap.size < w9.heap.size + 1 := (by omega); have yyw9_a : w.heap.size < w9.heap.size + 1 + 1 := (by omega); have zw9_b : w.heap.size + 1 < w9.heap.size := (by first | omega | (have hz := hb.size; (try simp at hz); omega)); have yw9_b : w.heap.size + 1 < w9.heap.size + 1 := (by omega); have yyw9_b : w.heap.size + 1 < w9.heap.size + 1 + 1 := (by omega); have zw9_m : w3.heap.size < w9.heap.size := (by first | omega | (have hz := hb.size; (try simp at hz); omega)); have yw9_m : w3.heap.size < w9.heap.size + 1 := (by omega); have yyw9_m : w3.heap.size < w9.heap.size + 1 + 1 := (by omega); have zw9_n : bX1n < w9.heap.size := (by first | omega | (have hz := hb.size; (try simp at hz); omega)); have yw9_n : bX1n < w9.heap.size + 1 := (by omega); have yyw9_n : bX1n < w9.heap.size + 1 + 1 := (by omega); have zw9_o : bX2o < w9.heap.size := (by first | omega | (have hz := hb.size; (try simp at hz); omega)); have yw9_o : bX2o < w9.heap.size + 1 := (by omega); have yyw9_o : bX2o < w9.heap.size + 1 + 1 := (by omega); have sxw9_0 : X2.heap.size ≤ w9.heap.size := (by first | omega | (have hz := hb.size; (try simp at hz); omega)); have HBw9 : Hid (Below w.heap.size w w9) := (bl_trans (by repeat (first | with_reducible exact Below.refl _ _ | with_reducible exact Hid.out (by assumption) | with_reducible refine Below.setCell ?_ (by first | (simp; done) | omega | (simp <;> omega)) _ | with_reducible refine bl_al ?_ _ | with_reducible apply Below.drew)) hb); clear hb
  go_upto_region 7 with fail
  refine name_world (P := fun W => Code.wp _ _ _ _ W) _ (fun R3 hR3 => ?_)
  have zR3_a : w.heap.size < R3.heap.size := by rw [hR3]; first | omega | (simp <;> omega)
  have yR3_a : w.heap.size < R3.heap.size + 1 := by omega
  have yyR3_a : w.heap.size < R3.heap.size + 1 + 1 := by omega
  have cR3_a_0 : R3.cell? ⟨w.heap.size, 0, none⟩ = some (.int .i64 a1) := by rw [hR3]; first | assumption | (simp [go_sem, *]; done)
  have cR3_a_1 : R3.cell? ⟨w.heap.size, 1, none⟩ = some (.int .u64 a0) := by rw [hR3]; first | assumption | (simp [go_sem, *]; done)
  have zR3_b : w.heap.size + 1 < R3.heap.size := by rw [hR3]; first | omega | (simp <;> omega)
  have yR3_b : w.heap.size + 1 < R3.heap.size + 1 := by omega
  have yyR3_b : w.heap.size + 1 < R3.heap.size + 1 + 1 := by omega
  have cR3_b_0 : R3.cell? ⟨w.heap.size + 1, 0, none⟩ = some (.int .i64 b1) := by rw [hR3]; first | assumption | (simp [go_sem, *]; done)
  have cR3_b_1 : R3.cell? ⟨w.heap.size + 1, 1, none⟩ = some (.int .u64 b0) := by rw [hR3]; first | assumption | (simp [go_sem, *]; done)
  have zR3_m : w3.heap.size < R3.heap.size := by rw [hR3]; first | omega | (simp <;> omega)
  have yR3_m : w3.heap.size < R3.heap.size + 1 := by omega
  have yyR3_m : w3.heap.size < R3.heap.size + 1 + 1 := by omega
  have cR3_m_0 : R3.cell? ⟨w3.heap.size, 0, none⟩ = some (.int .i64 m1) := by rw [hR3]; first | assumption | (simp [go_sem, *]; done)
  have cR3_m_1 : R3.cell? ⟨w3.heap.size, 1, none⟩ = some (.int .u64 m0) := by rw [hR3]; first | assumption | (simp [go_sem, *]; done)
  have zR3_n : bX1n < R3.heap.size := by rw [hR3]; first | omega | (simp <;> omega)
  have yR3_n : bX1n < R3.heap.size + 1 := by omega
  have yyR3_n : bX1n < R3.heap.size + 1 + 1 := by omega
  have cR3_n_0 : R3.cell? ⟨bX1n, 0, none⟩ = some (.int .i64 n1) := by rw [hR3]; first | assumption | (simp [go_sem, *]; done)
  have cR3_n_1 : R3.cell? ⟨bX1n, 1, none⟩ = some (.int .u64 n0) := by rw [hR3]; first | assumption | (simp [go_sem, *]; done)
  have zR3_o : bX2o < R3.heap.size := by rw [hR3]; first | omega | (simp <;> omega)
  have yR3_o : bX2o < R3.heap.size + 1 := by omega
  have yyR3_o : bX2o < R3.heap.size + 1 + 1 := by omega
  have cR3_o_0 : R3.cell? ⟨bX2o, 0, none⟩ = some (.int .i64 m1) := by rw [hR3]; first | assumption | (simp [go_sem, *]; done)
  have cR3_o_1 : R3.cell? ⟨bX2o, 1, none⟩ = some (.int .u64 m0) := by rw [hR3]; first | assumption | (simp [go_sem, *]; done)
  have zR3_q : w9.heap.size < R3.heap.size := by rw [hR3]; first | omega | (simp <;> omega)
  have yR3_q : w9.heap.size < R3.heap.size + 1 := by omega
  have yyR3_q : w9.heap.size < R3.heap.size + 1 + 1 := by omega
  have cR3_q_0 : R3.cell? ⟨w9.heap.size, 0, none⟩ = some (.int .i64 q1) := by rw [hR3]; first | assumption | (simp [go_sem, *]; done)
  have cR3_q_1 : R3.cell? ⟨w9.heap.size, 1, none⟩ = some (.int .u64 q0) := by rw [hR3]; first | assumption | (simp [go_sem, *]; done)
  have HBR3 : Hid (Below w.heap.size w R3) := by rw [hR3]; show Below _ _ _; exact (by repeat (first | with_reducible exact Below.refl _ _ | with_reducible exact Hid.out (by assumption) | with_reducible refine Below.setCell ?_ (by first | (simp; done) | omega | (simp <;> omega)) _ | with_reducible refine bl_al ?_ _ | with_reducible apply Below.drew))
  clear hR3
  clear HBX2 zX2_a cX2_a_0 cX2_a_1 zX2_b cX2_b_0 cX2_b_1 zX2_m cX2_m_0 cX2_m_1 zX2_n cX2_n_0 cX2_n_1 zX2_o cX2_o_0 cX2_o_1 zw9_a yw9_a yyw9_a zw9_b yw9_b yyw9_b zw9_m yw9_m yyw9_m zw9_n yw9_n yyw9_n zw9_o yw9_o yyw9_o sxw9_0 hclw9 hfrw9 HBw9
  go_cut [13, 14] (fun slot0 slot1 X3 => ∃ bX3r : Nat, slot0 = .pointer (some ⟨bX3r, 0, none⟩) ∧ slot1 = .int .i64 e2 ∧ R3.heap.size ≤ bX3r ∧ Below R3.heap.size R3 X3 ∧ Has (bX3r) [.int .i64 r1, .int .u64 r0] X3)
  case first =>
    clear HBR3
    have ltt : ∀ n : Nat, n < n + 1 + 1 := fun n => by omega
    have lttt : ∀ n : Nat, n + 1 < n + 1 + 1 := fun n => by omega
    go_region_held3 (fun w' => w'.cell? ⟨w.heap.size, 0, none⟩ = some (.int .i64 a1) ∧ w'.cell? ⟨w.heap.size, 1, none⟩ = some (.int .u64 a0) ∧ w'.cell? ⟨w.heap.size + 1, 0, none⟩ = some (.int .i64 b1) ∧ w'.cell? ⟨w.heap.size + 1, 1, none⟩ = some (.int .u64 b0)) (first | (simp [*, go_sem]; done) | (simp [*, go_sem, World.cell?_alloc_past]; done))
      (first
        | (go_at_call 30; (with_reducible refine (K6.out _).mono ?_); rintro e w10 ⟨rfl, hb⟩; (first | (with_reducible (obtain ⟨hclw10, hfrw10⟩ := bcell_drew hb)) | (obtain ⟨hclw10, hfrw10⟩ := bcell hb)); have zw10_a : w.heap.size < w10.heap.size := (by first | omega | (have hz := hb.size; (try simp at hz); omega)); have yw10_a : w.heap.size < w10.heap.size + 1 := (by omega); have yyw10_a : w.heap.size < w10.heap.size + 1 + 1 := (by omega); have zw10_b : w.heap.size + 1 < w10.heap.size := (by first | omega | (have hz := hb.size; (try simp at hz); omega)); have yw10_b : w.heap.size + 1 < w10.heap.size + 1 := (by omega); have yyw10_b : w.heap.size + 1 < w10.heap.size + 1 + 1 := (by omega); (try have sw10_0 : R3.heap.size < w10.heap.size := (by first | omega | (have hz := hb.size; (try simp at hz); omega))); (try have syw10_0 : R3.heap.size < w10.heap.size + 1 := (by omega)); (try have stw10_0 : R3.heap.size + 1 < w10.heap.size := (by first | omega | (have hz := hb.size; (try simp at hz); omega))); have sxw10_0 : R3.heap.size ≤ w10.heap.size := (by first | omega | (have hz := hb.size; (try simp at hz); omega)); have HBw10 : Hid (Below R3.heap.size R3 w10) := (bl_trans (by repeat (first | with_reducible exact Below.refl _ _ | with_reducible exact Hid.out (by assumption) | with_reducible refine Below.setCell ?_ (by first | (simp; done) | omega | (simp <;> omega)) _ | with_reducible refine bl_al ?_ _ | with_reducible apply Below.drew)) hb); clear hb; clear K6)
        | (go_at_call 21; (with_reducible refine (K9.out _).mono ?_); rintro e w11 ⟨rfl, hb⟩; obtain ⟨hclw11, hfrw11⟩ := bcell hb; have zw11_a : w.heap.size < w11.heap.size := (by first | omega | (have hz := hb.size; (try simp at hz); omega)); have yw11_a : w.heap.size < w11.heap.size + 1 := (by omega); have yyw11_a : w.heap.size < w11.heap.size + 1 + 1 := (by omega); have zw11_b : w.heap.size + 1 < w11.heap.size := (by first | omega | (have hz := hb.size; (try simp at hz); omega)); have yw11_b : w.heap.size + 1 < w11.heap.size + 1 := (by omega); have yyw11_b : w.heap.size + 1 < w11.heap.size + 1 + 1 := (by omega); (try have sw11_0 : R3.heap.size < w11.heap.size := (by first | omega | (have hz := hb.size; (try simp at hz); omega))); (try have syw11_0 : R3.heap.size < w11.heap.size + 1 := (by omega)); (try have stw11_0 : R3.heap.size + 1 < w11.heap.size := (by first | omega | (have hz := hb.size; (try simp at hz); omega))); have sxw11_0 : R3.heap.size ≤ w11.heap.size := (by first | omega | (have hz := hb.size; (try simp at hz); omega)); (try have sw11_w10 : w10.heap.size < w11.heap.size := (by first | omega | (have hz := hb.size; (try simp at hz); omega))); (try have syw11_w10 : w10.heap.size < w11.heap.size + 1 := (by omega)); (try have stw11_w10 : w10.heap.size + 1 < w11.heap.size := (by first | omega | (have hz := hb.size; (try simp at hz); omega))); have sxw11_w10 : w10.heap.size ≤ w11.heap.size := (by first | omega | (have hz := hb.size; (try simp at hz); omega)); have HBw11 : Hid (Below R3.heap.size R3 w11) := (bl_trans (by repeat (first | with_reducible exact Below.refl _ _ | with_reducible exact Hid.out (by assumption) | with_reducible refine Below.setCell ?_ (by first | (simp; done) | omega | (simp <;> omega)) _ | with_reducible refine bl_al ?_ _ | with_reducible apply Below.drew)) hb); clear hb; clear K9))
    all_goals (rename_i hHeld; clear hHeld; go_wp2_with fail; go_meet; exact ⟨_, rfl, rfl, (by first | omega | (simp <;> omega)), (by repeat (first | with_reducible exact Below.refl _ _ | with_reducible exact Hid.out (by assumption) | with_reducible refine Below.setCell ?_ (by first | (simp; done) | omega | (simp <;> omega)) _ | with_reducible refine bl_al ?_ _ | with_reducible apply Below.drew)), Has.mk2 (by first | (simp <;> omega) | omega) (by simp [go_sem, *]) (by simp [go_sem, *])⟩)
  case rest =>
  obtain ⟨X3, hX3⟩ : ∃ X, X = wc := ⟨wc, rfl⟩
  subst hX3
  obtain ⟨bX3r, rfl, rfl, m_bX3r, hX, g_r⟩ := hcut
  have zX3_a : w.heap.size < X3.heap.size := Nat.lt_of_lt_of_le zR3_a hX.size
  have cX3_a_0 : X3.cell? ⟨w.heap.size, 0, none⟩ = some (.int .i64 a1) := by rw [(bcell hX).1 _ _ zR3_a]; exact cR3_a_0
  have cX3_a_1 : X3.cell? ⟨w.heap.size, 1, none⟩ = some (.int .u64 a0) := by rw [(bcell hX).1 _ _ zR3_a]; exact cR3_a_1
  have zX3_b : w.heap.size + 1 < X3.heap.size := Nat.lt_of_lt_of_le zR3_b hX.size
  have cX3_b_0 : X3.cell? ⟨w.heap.size + 1, 0, none⟩ = some (.int .i64 b1) := by rw [(bcell hX).1 _ _ zR3_b]; exact cR3_b_0
  have cX3_b_1 : X3.cell? ⟨w.heap.size + 1, 1, none⟩ = some (.int .u64 b0) := by rw [(bcell hX).1 _ _ zR3_b]; exact cR3_b_1
  have zX3_m : w3.heap.size < X3.heap.size := Nat.lt_of_lt_of_le zR3_m hX.size
  have cX3_m_0 : X3.cell? ⟨w3.heap.size, 0, none⟩ = some (.int .i64 m1) := by rw [(bcell hX).1 _ _ zR3_m]; exact cR3_m_0
  have cX3_m_1 : X3.cell? ⟨w3.heap.size, 1, none⟩ = some (.int .u64 m0) := by rw [(bcell hX).1 _ _ zR3_m]; exact cR3_m_1
  have zX3_n : bX1n < X3.heap.size := Nat.lt_of_lt_of_le zR3_n hX.size
  have cX3_n_0 : X3.cell? ⟨bX1n, 0, none⟩ = some (.int .i64 n1) := by rw [(bcell hX).1 _ _ zR3_n]; exact cR3_n_0
  have cX3_n_1 : X3.cell? ⟨bX1n, 1, none⟩ = some (.int .u64 n0) := by rw [(bcell hX).1 _ _ zR3_n]; exact cR3_n_1
  have zX3_o : bX2o < X3.heap.size := Nat.lt_of_lt_of_le zR3_o hX.size
  have cX3_o_0 : X3.cell? ⟨bX2o, 0, none⟩ = some (.int .i64 m1) := by rw [(bcell hX).1 _ _ zR3_o]; exact cR3_o_0
  have cX3_o_1 : X3.cell? ⟨bX2o, 1, none⟩ = some (.int .u64 m0) := by rw [(bcell hX).1 _ _ zR3_o]; exact cR3_o_1
  have zX3_q : w9.heap.size < X3.heap.size := Nat.lt_of_lt_of_le zR3_q hX.size
  have cX3_q_0 : X3.cell? ⟨w9.heap.size, 0, none⟩ = some (.int .i64 q1) := by rw [(bcell hX).1 _ _ zR3_q]; exact cR3_q_0
  have cX3_q_1 : X3.cell? ⟨w9.heap.size, 1, none⟩ = some (.int .u64 q0) := by rw [(bcell hX).1 _ _ zR3_q]; exact cR3_q_1
  have zX3_r := g_r.1; have cX3_r_0 := g_r.2 0 _ rfl; have cX3_r_1 := g_r.2 1 _ rfl; clear g_r
  have HBX3 : Hid (Below w.heap.size w X3) := bl_trans HBR3.out hX
  clear hX
  clear zR3_a yR3_a yyR3_a cR3_a_0 cR3_a_1 zR3_b yR3_b yyR3_b cR3_b_0 cR3_b_1 zR3_m yR3_m yyR3_m cR3_m_0 cR3_m_1 zR3_n yR3_n yyR3_n cR3_n_0 cR3_n_1 zR3_o yR3_o yyR3_o cR3_o_0 cR3_o_1 zR3_q yR3_q yyR3_q cR3_q_0 cR3_q_1 HBR3 m_bX3r
  go_upto_region 8 with fail
  refine name_world (P := fun W => Code.wp _ _ _ _ W) _ (fun R4 hR4 => ?_)
  have zR4_a : w.heap.size < R4.heap.size := by rw [hR4]; first | omega | (simp <;> omega)
  have yR4_a : w.heap.size < R4.heap.size + 1 := by omega
  have yyR4_a : w.heap.size < R4.heap.size + 1 + 1 := by omega
  have cR4_a_0 : R4.cell? ⟨w.heap.size, 0, none⟩ = some (.int .i64 a1) := by rw [hR4]; first | assumption | (simp [go_sem, *]; done)
  have cR4_a_1 : R4.cell? ⟨w.heap.size, 1, none⟩ = some (.int .u64 a0) := by rw [hR4]; first | assumption | (simp [go_sem, *]; done)
  have zR4_b : w.heap.size + 1 < R4.heap.size := by rw [hR4]; first | omega | (simp <;> omega)
  have yR4_b : w.heap.size + 1 < R4.heap.size + 1 := by omega
  have yyR4_b : w.heap.size + 1 < R4.heap.size + 1 + 1 := by omega
  have cR4_b_0 : R4.cell? ⟨w.heap.size + 1, 0, none⟩ = some (.int .i64 b1) := by rw [hR4]; first | assumption | (simp [go_sem, *]; done)
  have cR4_b_1 : R4.cell? ⟨w.heap.size + 1, 1, none⟩ = some (.int .u64 b0) := by rw [hR4]; first | assumption | (simp [go_sem, *]; done)
  have zR4_m : w3.heap.size < R4.heap.size := by rw [hR4]; first | omega | (simp <;> omega)
  have yR4_m : w3.heap.size < R4.heap.size + 1 := by omega
  have yyR4_m : w3.heap.size < R4.heap.size + 1 + 1 := by omega
  have cR4_m_0 : R4.cell? ⟨w3.heap.size, 0, none⟩ = some (.int .i64 m1) := by rw [hR4]; first | assumption | (simp [go_sem, *]; done)
  have cR4_m_1 : R4.cell? ⟨w3.heap.size, 1, none⟩ = some (.int .u64 m0) := by rw [hR4]; first | assumption | (simp [go_sem, *]; done)
  have zR4_n : bX1n < R4.heap.size := by rw [hR4]; first | omega | (simp <;> omega)
  have yR4_n : bX1n < R4.heap.size + 1 := by omega
  have yyR4_n : bX1n < R4.heap.size + 1 + 1 := by omega
  have cR4_n_0 : R4.cell? ⟨bX1n, 0, none⟩ = some (.int .i64 n1) := by rw [hR4]; first | assumption | (simp [go_sem, *]; done)
  have cR4_n_1 : R4.cell? ⟨bX1n, 1, none⟩ = some (.int .u64 n0) := by rw [hR4]; first | assumption | (simp [go_sem, *]; done)
  have zR4_o : bX2o < R4.heap.size := by rw [hR4]; first | omega | (simp <;> omega)
  have yR4_o : bX2o < R4.heap.size + 1 := by omega
  have yyR4_o : bX2o < R4.heap.size + 1 + 1 := by omega
  have cR4_o_0 : R4.cell? ⟨bX2o, 0, none⟩ = some (.int .i64 m1) := by rw [hR4]; first | assumption | (simp [go_sem, *]; done)
  have cR4_o_1 : R4.cell? ⟨bX2o, 1, none⟩ = some (.int .u64 m0) := by rw [hR4]; first | assumption | (simp [go_sem, *]; done)
  have zR4_q : w9.heap.size < R4.heap.size := by rw [hR4]; first | omega | (simp <;> omega)
  have yR4_q : w9.heap.size < R4.heap.size + 1 := by omega
  have yyR4_q : w9.heap.size < R4.heap.size + 1 + 1 := by omega
  have cR4_q_0 : R4.cell? ⟨w9.heap.size, 0, none⟩ = some (.int .i64 q1) := by rw [hR4]; first | assumption | (simp [go_sem, *]; done)
  have cR4_q_1 : R4.cell? ⟨w9.heap.size, 1, none⟩ = some (.int .u64 q0) := by rw [hR4]; first | assumption | (simp [go_sem, *]; done)
  have zR4_r : bX3r < R4.heap.size := by rw [hR4]; first | omega | (simp <;> omega)
  have yR4_r : bX3r < R4.heap.size + 1 := by omega
  have yyR4_r : bX3r < R4.heap.size + 1 + 1 := by omega
  have cR4_r_0 : R4.cell? ⟨bX3r, 0, none⟩ = some (.int .i64 r1) := by rw [hR4]; first | assumption | (simp [go_sem, *]; done)
  have cR4_r_1 : R4.cell? ⟨bX3r, 1, none⟩ = some (.int .u64 r0) := by rw [hR4]; first | assumption | (simp [go_sem, *]; done)
  have HBR4 : Hid (Below w.heap.size w R4) := by rw [hR4]; show Below _ _ _; exact (by repeat (first | with_reducible exact Below.refl _ _ | with_reducible exact Hid.out (by assumption) | with_reducible refine Below.setCell ?_ (by first | (simp; done) | omega | (simp <;> omega)) _ | with_reducible refine bl_al ?_ _ | with_reducible apply Below.drew))
  clear hR4
  clear HBX3 zX3_a cX3_a_0 cX3_a_1 zX3_b cX3_b_0 cX3_b_1 zX3_m cX3_m_0 cX3_m_1 zX3_n cX3_n_0 cX3_n_1 zX3_o cX3_o_0 cX3_o_1 zX3_q cX3_q_0 cX3_q_1 zX3_r cX3_r_0 cX3_r_1
  go_cut [15, 16] (fun slot0 slot1 X4 => ∃ bX4s : Nat, slot0 = .pointer (some ⟨bX4s, 0, none⟩) ∧ slot1 = .int .i64 e3 ∧ R4.heap.size ≤ bX4s ∧ Below R4.heap.size R4 X4 ∧ Has (bX4s) [.int .i64 t1, .int .u64 t0] X4)
  case first =>
    clear HBR4
    have ltt : ∀ n : Nat, n < n + 1 + 1 := fun n => by omega
    have lttt : ∀ n : Nat, n + 1 < n + 1 + 1 := fun n => by omega
    go_region_held3 (fun w' => w'.cell? ⟨w.heap.size, 0, none⟩ = some (.int .i64 a1) ∧ w'.cell? ⟨w.heap.size, 1, none⟩ = some (.int .u64 a0) ∧ w'.cell? ⟨w.heap.size + 1, 0, none⟩ = some (.int .i64 b1) ∧ w'.cell? ⟨w.heap.size + 1, 1, none⟩ = some (.int .u64 b0)) (first | (simp [*, go_sem]; done) | (simp [*, go_sem, World.cell?_alloc_past]; done))
      (first
        | (go_at_call 30; (with_reducible refine (K4.out _).mono ?_); rintro e w12 ⟨rfl, hb⟩; (first | (with_reducible (obtain ⟨hclw12, hfrw12⟩ := bcell_drew hb)) | (obtain ⟨hclw12, hfrw12⟩ := bcell hb)); have zw12_a : w.heap.size < w12.heap.size := (by first | omega | (have hz := hb.size; (try simp at hz); omega)); have yw12_a : w.heap.size < w12.heap.size + 1 := (by omega); have yyw12_a : w.heap.size < w12.heap.size + 1 + 1 := (by omega); have zw12_b : w.heap.size + 1 < w12.heap.size := (by first | omega | (have hz := hb.size; (try simp at hz); omega)); have yw12_b : w.heap.size + 1 < w12.heap.size + 1 := (by omega); have yyw12_b : w.heap.size + 1 < w12.heap.size + 1 + 1 := (by omega); (try have sw12_0 : R4.heap.size < w12.heap.size := (by first | omega | (have hz := hb.size; (try simp at hz); omega))); (try have syw12_0 : R4.heap.size < w12.heap.size + 1 := (by omega)); (try have stw12_0 : R4.heap.size + 1 < w12.heap.size := (by first | omega | (have hz := hb.size; (try simp at hz); omega))); have sxw12_0 : R4.heap.size ≤ w12.heap.size := (by first | omega | (have hz := hb.size; (try simp at hz); omega)); have HBw12 : Hid (Below R4.heap.size R4 w12) := (bl_trans (by repeat (first | with_reducible exact Below.refl _ _ | with_reducible exact Hid.out (by assumption) | with_reducible refine Below.setCell ?_ (by first | (simp; done) | omega | (simp <;> omega)) _ | with_reducible refine bl_al ?_ _ | with_reducible apply Below.drew)) hb); clear hb; clear K4)
        | (go_at_call 30; (with_reducible refine (K6.out _).mono ?_); rintro e w13 ⟨rfl, hb⟩; obtain ⟨hclw13, hfrw13⟩ := bcell hb; have zw13_a : w.heap.size < w13.heap.size := (by first | omega | (have hz := hb.size; (try simp at hz); omega)); have yw13_a : w.heap.size < w13.heap.size + 1 := (by omega); have yyw13_a : w.heap.size < w13.heap.size + 1 + 1 := (by omega); have zw13_b : w.heap.size + 1 < w13.heap.size := (by first | omega | (have hz := hb.size; (try simp at hz); omega)); have yw13_b : w.heap.size + 1 < w13.heap.size + 1 := (by omega); have yyw13_b : w.heap.size + 1 < w13.heap.size + 1 + 1 := (by omega); (try have sw13_0 : R4.heap.size < w13.heap.size := (by first | omega | (have hz := hb.size; (try simp at hz); omega))); (try have syw13_0 : R4.heap.size < w13.heap.size + 1 := (by omega)); (try have stw13_0 : R4.heap.size + 1 < w13.heap.size := (by first | omega | (have hz := hb.size; (try simp at hz); omega))); have sxw13_0 : R4.heap.size ≤ w13.heap.size := (by first | omega | (have hz := hb.size; (try simp at hz); omega)); (try have sw13_w12 : w12.heap.size < w13.heap.size := (by first | omega | (have hz := hb.size; (try simp at hz); omega))); (try have syw13_w12 : w12.heap.size < w13.heap.size + 1 := (by omega)); (try have stw13_w12 : w12.heap.size + 1 < w13.heap.size := (by first | omega | (have hz := hb.size; (try simp at hz); omega))); have sxw13_w12 : w12.heap.size ≤ w13.heap.size := (by first | omega | (have hz := hb.size; (try simp at hz); omega)); have HBw13 : Hid (Below R4.heap.size R4 w13) := (bl_trans (by repeat (first | with_reducible exact Below.refl _ _ | with_reducible exact Hid.out (by assumption) | with_reducible refine Below.setCell ?_ (by first | (simp; done) | omega | (simp <;> omega)) _ | with_reducible refine bl_al ?_ _ | with_reducible apply Below.drew)) hb); clear hb; clear K6)
        | (go_at_call 18; (with_reducible refine (K10.out _).mono ?_); rintro e w14 ⟨rfl, hb⟩; obtain ⟨hclw14, hfrw14⟩ := bcell hb; have zw14_a : w.heap.size < w14.heap.size := (by first | omega | (have hz := hb.size; (try simp at hz); omega)); have yw14_a : w.heap.size < w14.heap.size + 1 := (by omega); have yyw14_a : w.heap.size < w14.heap.size + 1 + 1 := (by omega); have zw14_b : w.heap.size + 1 < w14.heap.size := (by first | omega | (have hz := hb.size; (try simp at hz); omega)); have yw14_b : w.heap.size + 1 < w14.heap.size + 1 := (by omega); have yyw14_b : w.heap.size + 1 < w14.heap.size + 1 + 1 := (by omega); (try have sw14_0 : R4.heap.size < w14.heap.size := (by first | omega | (have hz := hb.size; (try simp at hz); omega))); (try have syw14_0 : R4.heap.size < w14.heap.size + 1 := (by omega)); (try have stw14_0 : R4.heap.size + 1 < w14.heap.size := (by first | omega | (have hz := hb.size; (try simp at hz); omega))); have sxw14_0 : R4.heap.size ≤ w14.heap.size := (by first | omega | (have hz := hb.size; (try simp at hz); omega)); (try have sw14_w12 : w12.heap.size < w14.heap.size := (by first | omega | (have hz := hb.size; (try simp at hz); omega))); (try have syw14_w12 : w12.heap.size < w14.heap.size + 1 := (by omega)); (try have stw14_w12 : w12.heap.size + 1 < w14.heap.size := (by first | omega | (have hz := hb.size; (try simp at hz); omega))); have sxw14_w12 : w12.heap.size ≤ w14.heap.size := (by first | omega | (have hz := hb.size; (try simp at hz); omega)); (try have sw14_w13 : w13.heap.size < w14.heap.size := (by first | omega | (have hz := hb.size; (try simp at hz); omega))); (try have syw14_w13 : w13.heap.size < w14.heap.size + 1 := (by omega)); (try have stw14_w13 : w13.heap.size + 1 < w14.heap.size := (by first | omega | (have hz := hb.size; (try simp at hz); omega))); have sxw14_w13 : w13.heap.size ≤ w14.heap.size := (by first | omega | (have hz := hb.size; (try simp at hz); omega)); have HBw14 : Hid (Below R4.heap.size R4 w14) := (bl_trans (by repeat (first | with_reducible exact Below.refl _ _ | with_reducible exact Hid.out (by assumption) | with_reducible refine Below.setCell ?_ (by first | (simp; done) | omega | (simp <;> omega)) _ | with_reducible refine bl_al ?_ _ | with_reducible apply Below.drew)) hb); clear hb; clear K10))
    all_goals (rename_i hHeld; clear hHeld; go_wp2_with fail; go_meet; exact ⟨_, rfl, rfl, (by first | omega | (simp <;> omega)), (by repeat (first | with_reducible exact Below.refl _ _ | with_reducible exact Hid.out (by assumption) | with_reducible refine Below.setCell ?_ (by first | (simp; done) | omega | (simp <;> omega)) _ | with_reducible refine bl_al ?_ _ | with_reducible apply Below.drew)), Has.mk2 (by first | (simp <;> omega) | omega) (by simp [go_sem, *]) (by simp [go_sem, *])⟩)
  case rest =>
  obtain ⟨X4, hX4⟩ : ∃ X, X = wc := ⟨wc, rfl⟩
  subst hX4
  obtain ⟨bX4s, rfl, rfl, m_bX4s, hX, g_s⟩ := hcut
  have zX4_a : w.heap.size < X4.heap.size := Nat.lt_of_lt_of_le zR4_a hX.size
  have cX4_a_0 : X4.cell? ⟨w.heap.size, 0, none⟩ = some (.int .i64 a1) := by rw [(bcell hX).1 _ _ zR4_a]; exact cR4_a_0
  have cX4_a_1 : X4.cell? ⟨w.heap.size, 1, none⟩ = some (.int .u64 a0) := by rw [(bcell hX).1 _ _ zR4_a]; exact cR4_a_1
  have zX4_b : w.heap.size + 1 < X4.heap.size := Nat.lt_of_lt_of_le zR4_b hX.size
  have cX4_b_0 : X4.cell? ⟨w.heap.size + 1, 0, none⟩ = some (.int .i64 b1) := by rw [(bcell hX).1 _ _ zR4_b]; exact cR4_b_0
  have cX4_b_1 : X4.cell? ⟨w.heap.size + 1, 1, none⟩ = some (.int .u64 b0) := by rw [(bcell hX).1 _ _ zR4_b]; exact cR4_b_1
  have zX4_m : w3.heap.size < X4.heap.size := Nat.lt_of_lt_of_le zR4_m hX.size
  have cX4_m_0 : X4.cell? ⟨w3.heap.size, 0, none⟩ = some (.int .i64 m1) := by rw [(bcell hX).1 _ _ zR4_m]; exact cR4_m_0
  have cX4_m_1 : X4.cell? ⟨w3.heap.size, 1, none⟩ = some (.int .u64 m0) := by rw [(bcell hX).1 _ _ zR4_m]; exact cR4_m_1
  have zX4_n : bX1n < X4.heap.size := Nat.lt_of_lt_of_le zR4_n hX.size
  have cX4_n_0 : X4.cell? ⟨bX1n, 0, none⟩ = some (.int .i64 n1) := by rw [(bcell hX).1 _ _ zR4_n]; exact cR4_n_0
  have cX4_n_1 : X4.cell? ⟨bX1n, 1, none⟩ = some (.int .u64 n0) := by rw [(bcell hX).1 _ _ zR4_n]; exact cR4_n_1
  have zX4_o : bX2o < X4.heap.size := Nat.lt_of_lt_of_le zR4_o hX.size
  have cX4_o_0 : X4.cell? ⟨bX2o, 0, none⟩ = some (.int .i64 m1) := by rw [(bcell hX).1 _ _ zR4_o]; exact cR4_o_0
  have cX4_o_1 : X4.cell? ⟨bX2o, 1, none⟩ = some (.int .u64 m0) := by rw [(bcell hX).1 _ _ zR4_o]; exact cR4_o_1
  have zX4_q : w9.heap.size < X4.heap.size := Nat.lt_of_lt_of_le zR4_q hX.size
  have cX4_q_0 : X4.cell? ⟨w9.heap.size, 0, none⟩ = some (.int .i64 q1) := by rw [(bcell hX).1 _ _ zR4_q]; exact cR4_q_0
  have cX4_q_1 : X4.cell? ⟨w9.heap.size, 1, none⟩ = some (.int .u64 q0) := by rw [(bcell hX).1 _ _ zR4_q]; exact cR4_q_1
  have zX4_r : bX3r < X4.heap.size := Nat.lt_of_lt_of_le zR4_r hX.size
  have cX4_r_0 : X4.cell? ⟨bX3r, 0, none⟩ = some (.int .i64 r1) := by rw [(bcell hX).1 _ _ zR4_r]; exact cR4_r_0
  have cX4_r_1 : X4.cell? ⟨bX3r, 1, none⟩ = some (.int .u64 r0) := by rw [(bcell hX).1 _ _ zR4_r]; exact cR4_r_1
  have zX4_s := g_s.1; have cX4_s_0 := g_s.2 0 _ rfl; have cX4_s_1 := g_s.2 1 _ rfl; clear g_s
  have HBX4 : Hid (Below w.heap.size w X4) := bl_trans HBR4.out hX
  clear hX
  clear zR4_a yR4_a yyR4_a cR4_a_0 cR4_a_1 zR4_b yR4_b yyR4_b cR4_b_0 cR4_b_1 zR4_m yR4_m yyR4_m cR4_m_0 cR4_m_1 zR4_n yR4_n yyR4_n cR4_n_0 cR4_n_1 zR4_o yR4_o yyR4_o cR4_o_0 cR4_o_1 zR4_q yR4_q yyR4_q cR4_q_0 cR4_q_1 zR4_r yR4_r yyR4_r cR4_r_0 cR4_r_1 HBR4 m_bX4s
  go_wp2_with fail
  (with_reducible refine (K11.out _).mono ?_); rintro e w15 ⟨rfl, hb⟩; obtain ⟨hclw15, hfrw15⟩ := bcell hb; have zw15_a : w.heap.size < w15.heap.size := (by first | omega | (have hz := hb.size; (try simp at hz); omega)); have yw15_a : w.heap.size < w15.heap.size + 1 := (by omega); have yyw15_a : w.heap.size < w15.heap.size + 1 + 1 := (by omega); have zw15_b : w.heap.size + 1 < w15.heap.size := (by first | omega | (have hz := hb.size; (try simp at hz); omega)); have yw15_b : w.heap.size + 1 < w15.heap.size + 1 := (by omega); have yyw15_b : w.heap.size + 1 < w15.heap.size + 1 + 1 := (by omega); have zw15_m : w3.heap.size < w15.heap.size := (by first | omega | (have hz := hb.size; (try simp at hz); omega)); have yw15_m : w3.heap.size < w15.heap.size + 1 := (by omega); have yyw15_m : w3.heap.size < w15.heap.size + 1 + 1 := (by omega); have zw15_n : bX1n < w15.heap.size := (by first | omega | (have hz := hb.size; (try simp at hz); omega)); have yw15_n : bX1n < w15.heap.size + 1 := (by omega); have yyw15_n : bX1n < w15.heap.size + 1 + 1 := (by omega); have zw15_o : bX2o < w15.heap.size := (by first | omega | (have hz := hb.size; (try simp at hz); omega)); have yw15_o : bX2o < w15.heap.size + 1 := (by omega); have yyw15_o : bX2o < w15.heap.size + 1 + 1 := (by omega); have zw15_q : w9.heap.size < w15.heap.size := (by first | omega | (have hz := hb.size; (try simp at hz); omega)); have yw15_q : w9.heap.size < w15.heap.size + 1 := (by omega); have yyw15_q : w9.heap.size < w15.heap.size + 1 + 1 := (by omega); have zw15_r : bX3r < w15.heap.size := (by first | omega | (have hz := hb.size; (try simp at hz); omega)); have yw15_r : bX3r < w15.heap.size + 1 := (by omega); have yyw15_r : bX3r < w15.heap.size + 1 + 1 := (by omega); have zw15_s : bX4s < w15.heap.size := (by first | omega | (have hz := hb.size; (try simp at hz); omega)); have yw15_s : bX4s < w15.heap.size + 1 := (by omega); have yyw15_s : bX4s < w15.heap.size + 1 + 1 := (by omega); have sxw15_0 : X4.heap.size ≤ w15.heap.size := (by first | omega | (have hz := hb.size; (try simp at hz); omega)); have HBw15 : Hid (Below w.heap.size w w15) := (bl_trans (by repeat (first | with_reducible exact Below.refl _ _ | with_reducible exact Hid.out (by assumption) | with_reducible refine Below.setCell ?_ (by first | (simp; done) | omega | (simp <;> omega)) _ | with_reducible refine bl_al ?_ _ | with_reducible apply Below.drew)) hb); clear hb
  go_upto_region 12 with fail
  refine name_world (P := fun W => Code.wp _ _ _ _ W) _ (fun R5 hR5 => ?_)
  have zR5_a : w.heap.size < R5.heap.size := by rw [hR5]; first | omega | (simp <;> omega)
  have yR5_a : w.heap.size < R5.heap.size + 1 := by omega
  have yyR5_a : w.heap.size < R5.heap.size + 1 + 1 := by omega
  have cR5_a_0 : R5.cell? ⟨w.heap.size, 0, none⟩ = some (.int .i64 a1) := by rw [hR5]; first | assumption | (simp [go_sem, *]; done)
  have cR5_a_1 : R5.cell? ⟨w.heap.size, 1, none⟩ = some (.int .u64 a0) := by rw [hR5]; first | assumption | (simp [go_sem, *]; done)
  have zR5_b : w.heap.size + 1 < R5.heap.size := by rw [hR5]; first | omega | (simp <;> omega)
  have yR5_b : w.heap.size + 1 < R5.heap.size + 1 := by omega
  have yyR5_b : w.heap.size + 1 < R5.heap.size + 1 + 1 := by omega
  have cR5_b_0 : R5.cell? ⟨w.heap.size + 1, 0, none⟩ = some (.int .i64 b1) := by rw [hR5]; first | assumption | (simp [go_sem, *]; done)
  have cR5_b_1 : R5.cell? ⟨w.heap.size + 1, 1, none⟩ = some (.int .u64 b0) := by rw [hR5]; first | assumption | (simp [go_sem, *]; done)
  have zR5_m : w3.heap.size < R5.heap.size := by rw [hR5]; first | omega | (simp <;> omega)
  have yR5_m : w3.heap.size < R5.heap.size + 1 := by omega
  have yyR5_m : w3.heap.size < R5.heap.size + 1 + 1 := by omega
  have cR5_m_0 : R5.cell? ⟨w3.heap.size, 0, none⟩ = some (.int .i64 m1) := by rw [hR5]; first | assumption | (simp [go_sem, *]; done)
  have cR5_m_1 : R5.cell? ⟨w3.heap.size, 1, none⟩ = some (.int .u64 m0) := by rw [hR5]; first | assumption | (simp [go_sem, *]; done)
  have zR5_n : bX1n < R5.heap.size := by rw [hR5]; first | omega | (simp <;> omega)
  have yR5_n : bX1n < R5.heap.size + 1 := by omega
  have yyR5_n : bX1n < R5.heap.size + 1 + 1 := by omega
  have cR5_n_0 : R5.cell? ⟨bX1n, 0, none⟩ = some (.int .i64 n1) := by rw [hR5]; first | assumption | (simp [go_sem, *]; done)
  have cR5_n_1 : R5.cell? ⟨bX1n, 1, none⟩ = some (.int .u64 n0) := by rw [hR5]; first | assumption | (simp [go_sem, *]; done)
  have zR5_o : bX2o < R5.heap.size := by rw [hR5]; first | omega | (simp <;> omega)
  have yR5_o : bX2o < R5.heap.size + 1 := by omega
  have yyR5_o : bX2o < R5.heap.size + 1 + 1 := by omega
  have cR5_o_0 : R5.cell? ⟨bX2o, 0, none⟩ = some (.int .i64 m1) := by rw [hR5]; first | assumption | (simp [go_sem, *]; done)
  have cR5_o_1 : R5.cell? ⟨bX2o, 1, none⟩ = some (.int .u64 m0) := by rw [hR5]; first | assumption | (simp [go_sem, *]; done)
  have zR5_q : w9.heap.size < R5.heap.size := by rw [hR5]; first | omega | (simp <;> omega)
  have yR5_q : w9.heap.size < R5.heap.size + 1 := by omega
  have yyR5_q : w9.heap.size < R5.heap.size + 1 + 1 := by omega
  have cR5_q_0 : R5.cell? ⟨w9.heap.size, 0, none⟩ = some (.int .i64 q1) := by rw [hR5]; first | assumption | (simp [go_sem, *]; done)
  have cR5_q_1 : R5.cell? ⟨w9.heap.size, 1, none⟩ = some (.int .u64 q0) := by rw [hR5]; first | assumption | (simp [go_sem, *]; done)
  have zR5_r : bX3r < R5.heap.size := by rw [hR5]; first | omega | (simp <;> omega)
  have yR5_r : bX3r < R5.heap.size + 1 := by omega
  have yyR5_r : bX3r < R5.heap.size + 1 + 1 := by omega
  have cR5_r_0 : R5.cell? ⟨bX3r, 0, none⟩ = some (.int .i64 r1) := by rw [hR5]; first | assumption | (simp [go_sem, *]; done)
  have cR5_r_1 : R5.cell? ⟨bX3r, 1, none⟩ = some (.int .u64 r0) := by rw [hR5]; first | assumption | (simp [go_sem, *]; done)
  have zR5_s : bX4s < R5.heap.size := by rw [hR5]; first | omega | (simp <;> omega)
  have yR5_s : bX4s < R5.heap.size + 1 := by omega
  have yyR5_s : bX4s < R5.heap.size + 1 + 1 := by omega
  have cR5_s_0 : R5.cell? ⟨bX4s, 0, none⟩ = some (.int .i64 t1) := by rw [hR5]; first | assumption | (simp [go_sem, *]; done)
  have cR5_s_1 : R5.cell? ⟨bX4s, 1, none⟩ = some (.int .u64 t0) := by rw [hR5]; first | assumption | (simp [go_sem, *]; done)
  have zR5_t : w15.heap.size < R5.heap.size := by rw [hR5]; first | omega | (simp <;> omega)
  have yR5_t : w15.heap.size < R5.heap.size + 1 := by omega
  have yyR5_t : w15.heap.size < R5.heap.size + 1 + 1 := by omega
  have cR5_t_0 : R5.cell? ⟨w15.heap.size, 0, none⟩ = some (.int .i64 s1) := by rw [hR5]; first | assumption | (simp [go_sem, *]; done)
  have cR5_t_1 : R5.cell? ⟨w15.heap.size, 1, none⟩ = some (.int .u64 s0) := by rw [hR5]; first | assumption | (simp [go_sem, *]; done)
  have HBR5 : Hid (Below w.heap.size w R5) := by rw [hR5]; show Below _ _ _; exact (by repeat (first | with_reducible exact Below.refl _ _ | with_reducible exact Hid.out (by assumption) | with_reducible refine Below.setCell ?_ (by first | (simp; done) | omega | (simp <;> omega)) _ | with_reducible refine bl_al ?_ _ | with_reducible apply Below.drew))
  clear hR5
  clear HBX4 zX4_a cX4_a_0 cX4_a_1 zX4_b cX4_b_0 cX4_b_1 zX4_m cX4_m_0 cX4_m_1 zX4_n cX4_n_0 cX4_n_1 zX4_o cX4_o_0 cX4_o_1 zX4_q cX4_q_0 cX4_q_1 zX4_r cX4_r_0 cX4_r_1 zX4_s cX4_s_0 cX4_s_1 zw15_a yw15_a yyw15_a zw15_b yw15_b yyw15_b zw15_m yw15_m yyw15_m zw15_n yw15_n yyw15_n zw15_o yw15_o yyw15_o zw15_q yw15_q yyw15_q zw15_r yw15_r yyw15_r zw15_s yw15_s yyw15_s sxw15_0 hclw15 hfrw15 HBw15
  refine wp_region_held_drew (S := fun w' => w'.cell? ⟨w.heap.size, 0, none⟩ = some (.int .i64 a1) ∧ w'.cell? ⟨w.heap.size, 1, none⟩ = some (.int .u64 a0) ∧ w'.cell? ⟨w3.heap.size, 0, none⟩ = some (.int .i64 m1) ∧ w'.cell? ⟨w3.heap.size, 1, none⟩ = some (.int .u64 m0) ∧ w'.cell? ⟨bX1n, 0, none⟩ = some (.int .i64 n1) ∧ w'.cell? ⟨bX1n, 1, none⟩ = some (.int .u64 n0) ∧ w'.cell? ⟨bX2o, 0, none⟩ = some (.int .i64 m1) ∧ w'.cell? ⟨bX2o, 1, none⟩ = some (.int .u64 m0) ∧ w'.cell? ⟨w9.heap.size, 0, none⟩ = some (.int .i64 q1) ∧ w'.cell? ⟨w9.heap.size, 1, none⟩ = some (.int .u64 q0) ∧ w'.cell? ⟨bX3r, 0, none⟩ = some (.int .i64 r1) ∧ w'.cell? ⟨bX3r, 1, none⟩ = some (.int .u64 r0) ∧ w'.cell? ⟨bX4s, 0, none⟩ = some (.int .i64 t1) ∧ w'.cell? ⟨bX4s, 1, none⟩ = some (.int .u64 t0) ∧ w'.cell? ⟨w15.heap.size, 0, none⟩ = some (.int .i64 s1) ∧ w'.cell? ⟨w15.heap.size, 1, none⟩ = some (.int .u64 s0)) (by kernel_rfl) ?_ (fun hHeld => ?_)
  · (try dsimp only); (first | (simp [*, go_sem]; done) | (simp [*, go_sem, World.cell?_alloc_past]; done))
  refine wpAnyH_take (i := 0) (oi := _) (v := ?_) (by simp only [List.getElem?_toArray, List.getElem?_cons_zero]; rfl) (by kernel_rfl) (by kernel_rfl) (by kernel_rfl) (by exact fun _ _ _ h => h) (Or.inl ⟨by rfl, ?_⟩) (by assumption) ?_
  rotate_left 1
  · (intro w hSw; (try dsimp only at hSw); go_simp; try with_reducible rfl)
  try simp only [Act.put, List.setIfInBounds_toArray, List.set_cons_zero, List.set_cons_succ]
  refine wpAnyH_take (i := 1) (oi := _) (v := ?_) (by simp only [List.getElem?_toArray, List.getElem?_cons_succ, List.getElem?_cons_zero]; rfl) (by kernel_rfl) (by kernel_rfl) (by kernel_rfl) (by exact fun _ _ _ h => h) (Or.inl ⟨by rfl, ?_⟩) (by assumption) ?_
  rotate_left 1
  · (intro w hSw; (try dsimp only at hSw); go_simp; try with_reducible rfl)
  try simp only [Act.put, List.setIfInBounds_toArray, List.set_cons_zero, List.set_cons_succ]
  refine wpAnyH_ready (rs := [2]) (by kernel_rfl) (by simp) ?_
  refine AllReadyH.cons (o := _) (by simp only [List.getElem?_toArray, List.getElem?_cons_succ, List.getElem?_cons_zero]; rfl) (fun K hK => ?_) AllReadyH.nil
  go_simp
  (go_at_call 30; (with_reducible refine ((K12.out) _).mono ?_); rintro e w16 ⟨rfl, hb⟩; (first | (with_reducible (obtain ⟨hclw16, hfrw16⟩ := bcell_drew hb)) | (obtain ⟨hclw16, hfrw16⟩ := bcell hb)); have zw16_a : w.heap.size < w16.heap.size := (by first | omega | (have hz := hb.size; (try simp at hz); omega)); have yw16_a : w.heap.size < w16.heap.size + 1 := (by omega); have yyw16_a : w.heap.size < w16.heap.size + 1 + 1 := (by omega); have zw16_m : w3.heap.size < w16.heap.size := (by first | omega | (have hz := hb.size; (try simp at hz); omega)); have yw16_m : w3.heap.size < w16.heap.size + 1 := (by omega); have yyw16_m : w3.heap.size < w16.heap.size + 1 + 1 := (by omega); have zw16_n : bX1n < w16.heap.size := (by first | omega | (have hz := hb.size; (try simp at hz); omega)); have yw16_n : bX1n < w16.heap.size + 1 := (by omega); have yyw16_n : bX1n < w16.heap.size + 1 + 1 := (by omega); have zw16_o : bX2o < w16.heap.size := (by first | omega | (have hz := hb.size; (try simp at hz); omega)); have yw16_o : bX2o < w16.heap.size + 1 := (by omega); have yyw16_o : bX2o < w16.heap.size + 1 + 1 := (by omega); have zw16_q : w9.heap.size < w16.heap.size := (by first | omega | (have hz := hb.size; (try simp at hz); omega)); have yw16_q : w9.heap.size < w16.heap.size + 1 := (by omega); have yyw16_q : w9.heap.size < w16.heap.size + 1 + 1 := (by omega); have zw16_r : bX3r < w16.heap.size := (by first | omega | (have hz := hb.size; (try simp at hz); omega)); have yw16_r : bX3r < w16.heap.size + 1 := (by omega); have yyw16_r : bX3r < w16.heap.size + 1 + 1 := (by omega); have zw16_s : bX4s < w16.heap.size := (by first | omega | (have hz := hb.size; (try simp at hz); omega)); have yw16_s : bX4s < w16.heap.size + 1 := (by omega); have yyw16_s : bX4s < w16.heap.size + 1 + 1 := (by omega); have zw16_t : w15.heap.size < w16.heap.size := (by first | omega | (have hz := hb.size; (try simp at hz); omega)); have yw16_t : w15.heap.size < w16.heap.size + 1 := (by omega); have yyw16_t : w15.heap.size < w16.heap.size + 1 + 1 := (by omega); have sxw16_0 : R5.heap.size ≤ w16.heap.size := (by first | omega | (have hz := hb.size; (try simp at hz); omega)); have HBw16 : Hid (Below w.heap.size w w16) := (bl_trans (by repeat (first | with_reducible exact Below.refl _ _ | with_reducible exact Hid.out (by assumption) | with_reducible refine Below.setCell ?_ (by first | (simp; done) | omega | (simp <;> omega)) _ | with_reducible refine bl_al ?_ _ | with_reducible apply Below.drew)) hb); clear hb)
  try go_wp2_with fail
  refine hK.out _ _ ?_ (fun hHeldN => ?_)
  · (try dsimp only); (first | (simp [*, go_sem]; done) | (simp [*, go_sem, World.cell?_alloc_past]; done))
  clear hK K hHeld; have hHeld := hHeldN; clear hHeldN
  try simp only [Act.put, List.setIfInBounds_toArray, List.set_cons_zero, List.set_cons_succ]
  refine wpAnyH_take (i := 3) (oi := _) (v := ?_) (by simp only [List.getElem?_toArray, List.getElem?_cons_succ, List.getElem?_cons_zero]; rfl) (by kernel_rfl) (by kernel_rfl) (by kernel_rfl) (by exact fun _ _ _ h => h) (Or.inl ⟨by rfl, ?_⟩) (by assumption) ?_
  rotate_left 1
  · (intro w hSw; (try dsimp only at hSw); go_simp; try with_reducible rfl)
  try simp only [Act.put, List.setIfInBounds_toArray, List.set_cons_zero, List.set_cons_succ]
  refine wpAnyH_take (i := 4) (oi := _) (v := ?_) (by simp only [List.getElem?_toArray, List.getElem?_cons_succ, List.getElem?_cons_zero]; rfl) (by kernel_rfl) (by kernel_rfl) (by kernel_rfl) (by exact fun _ _ _ h => h) (Or.inl ⟨by rfl, ?_⟩) (by assumption) ?_
  rotate_left 1
  · (intro w hSw; (try dsimp only at hSw); go_simp; try with_reducible rfl)
  try simp only [Act.put, List.setIfInBounds_toArray, List.set_cons_zero, List.set_cons_succ]
  refine wpAnyH_take (i := 5) (oi := _) (v := ?_) (by simp only [List.getElem?_toArray, List.getElem?_cons_succ, List.getElem?_cons_zero]; rfl) (by kernel_rfl) (by kernel_rfl) (by kernel_rfl) (by exact fun _ _ _ h => h) (Or.inl ⟨by rfl, ?_⟩) (by assumption) ?_
  rotate_left 1
  · (intro w hSw; (try dsimp only at hSw); go_simp; try with_reducible rfl)
  try simp only [Act.put, List.setIfInBounds_toArray, List.set_cons_zero, List.set_cons_succ]
  refine wpAnyH_take (i := 6) (oi := _) (v := ?_) (by simp only [List.getElem?_toArray, List.getElem?_cons_succ, List.getElem?_cons_zero]; rfl) (by kernel_rfl) (by kernel_rfl) (by kernel_rfl) (by exact fun _ _ _ h => h) (Or.inl ⟨by rfl, ?_⟩) (by assumption) ?_
  rotate_left 1
  · (intro w hSw; (try dsimp only at hSw); go_simp; try with_reducible rfl)
  try simp only [Act.put, List.setIfInBounds_toArray, List.set_cons_zero, List.set_cons_succ]
  refine wpAnyH_take (i := 7) (oi := _) (v := ?_) (by simp only [List.getElem?_toArray, List.getElem?_cons_succ, List.getElem?_cons_zero]; rfl) (by kernel_rfl) (by kernel_rfl) (by kernel_rfl) (by exact fun _ _ _ h => h) (Or.inl ⟨by rfl, ?_⟩) (by assumption) ?_
  rotate_left 1
  · (intro w hSw; (try dsimp only at hSw); go_simp; try with_reducible rfl)
  try simp only [Act.put, List.setIfInBounds_toArray, List.set_cons_zero, List.set_cons_succ]
  refine wpAnyH_take (i := 8) (oi := _) (v := ?_) (by simp only [List.getElem?_toArray, List.getElem?_cons_succ, List.getElem?_cons_zero]; rfl) (by kernel_rfl) (by kernel_rfl) (by kernel_rfl) (by exact fun _ _ _ h => h) (Or.inl ⟨by rfl, ?_⟩) (by assumption) ?_
  rotate_left 1
  · (intro w hSw; (try dsimp only at hSw); go_simp; try with_reducible rfl)
  try simp only [Act.put, List.setIfInBounds_toArray, List.set_cons_zero, List.set_cons_succ]
  refine wpAnyH_take (i := 9) (oi := _) (v := ?_) (by simp only [List.getElem?_toArray, List.getElem?_cons_succ, List.getElem?_cons_zero]; rfl) (by kernel_rfl) (by kernel_rfl) (by kernel_rfl) (by exact fun _ _ _ h => h) (Or.inl ⟨by rfl, ?_⟩) (by assumption) ?_
  rotate_left 1
  · (intro w hSw; (try dsimp only at hSw); go_simp; try with_reducible rfl)
  try simp only [Act.put, List.setIfInBounds_toArray, List.set_cons_zero, List.set_cons_succ]
  refine wpAnyH_take (i := 10) (oi := _) (v := ?_) (by simp only [List.getElem?_toArray, List.getElem?_cons_succ, List.getElem?_cons_zero]; rfl) (by kernel_rfl) (by kernel_rfl) (by kernel_rfl) (by exact fun _ _ _ h => h) (Or.inl ⟨by rfl, ?_⟩) (by assumption) ?_
  rotate_left 1
  · (intro w hSw; (try dsimp only at hSw); go_simp; try with_reducible rfl)
  try simp only [Act.put, List.setIfInBounds_toArray, List.set_cons_zero, List.set_cons_succ]
  refine wpAnyH_take (i := 11) (oi := _) (v := ?_) (by simp only [List.getElem?_toArray, List.getElem?_cons_succ, List.getElem?_cons_zero]; rfl) (by kernel_rfl) (by kernel_rfl) (by kernel_rfl) (by exact fun _ _ _ h => h) (Or.inl ⟨by rfl, ?_⟩) (by assumption) ?_
  rotate_left 1
  · (intro w hSw; (try dsimp only at hSw); go_simp; try with_reducible rfl)
  try simp only [Act.put, List.setIfInBounds_toArray, List.set_cons_zero, List.set_cons_succ]
  refine wpAnyH_ready (rs := [12]) (by kernel_rfl) (by simp) ?_
  refine AllReadyH.cons (o := _) (by simp only [List.getElem?_toArray, List.getElem?_cons_succ, List.getElem?_cons_zero]; rfl) (fun K hK => ?_) AllReadyH.nil
  go_simp
  (go_at_call 30; (with_reducible refine ((K13.out) _).mono ?_); rintro e w17 ⟨rfl, hb⟩; obtain ⟨hclw17, hfrw17⟩ := bcell hb; have zw17_a : w.heap.size < w17.heap.size := (by first | omega | (have hz := hb.size; (try simp at hz); omega)); have yw17_a : w.heap.size < w17.heap.size + 1 := (by omega); have yyw17_a : w.heap.size < w17.heap.size + 1 + 1 := (by omega); have zw17_m : w3.heap.size < w17.heap.size := (by first | omega | (have hz := hb.size; (try simp at hz); omega)); have yw17_m : w3.heap.size < w17.heap.size + 1 := (by omega); have yyw17_m : w3.heap.size < w17.heap.size + 1 + 1 := (by omega); have zw17_n : bX1n < w17.heap.size := (by first | omega | (have hz := hb.size; (try simp at hz); omega)); have yw17_n : bX1n < w17.heap.size + 1 := (by omega); have yyw17_n : bX1n < w17.heap.size + 1 + 1 := (by omega); have zw17_o : bX2o < w17.heap.size := (by first | omega | (have hz := hb.size; (try simp at hz); omega)); have yw17_o : bX2o < w17.heap.size + 1 := (by omega); have yyw17_o : bX2o < w17.heap.size + 1 + 1 := (by omega); have zw17_q : w9.heap.size < w17.heap.size := (by first | omega | (have hz := hb.size; (try simp at hz); omega)); have yw17_q : w9.heap.size < w17.heap.size + 1 := (by omega); have yyw17_q : w9.heap.size < w17.heap.size + 1 + 1 := (by omega); have zw17_r : bX3r < w17.heap.size := (by first | omega | (have hz := hb.size; (try simp at hz); omega)); have yw17_r : bX3r < w17.heap.size + 1 := (by omega); have yyw17_r : bX3r < w17.heap.size + 1 + 1 := (by omega); have zw17_s : bX4s < w17.heap.size := (by first | omega | (have hz := hb.size; (try simp at hz); omega)); have yw17_s : bX4s < w17.heap.size + 1 := (by omega); have yyw17_s : bX4s < w17.heap.size + 1 + 1 := (by omega); have zw17_t : w15.heap.size < w17.heap.size := (by first | omega | (have hz := hb.size; (try simp at hz); omega)); have yw17_t : w15.heap.size < w17.heap.size + 1 := (by omega); have yyw17_t : w15.heap.size < w17.heap.size + 1 + 1 := (by omega); have sxw17_0 : R5.heap.size ≤ w17.heap.size := (by first | omega | (have hz := hb.size; (try simp at hz); omega)); have sxw17_w16 : w16.heap.size ≤ w17.heap.size := (by first | omega | (have hz := hb.size; (try simp at hz); omega)); have HBw17 : Hid (Below w.heap.size w w17) := (bl_trans (by repeat (first | with_reducible exact Below.refl _ _ | with_reducible exact Hid.out (by assumption) | with_reducible refine Below.setCell ?_ (by first | (simp; done) | omega | (simp <;> omega)) _ | with_reducible refine bl_al ?_ _ | with_reducible apply Below.drew)) hb); clear hb)
  try go_wp2_with fail
  refine hK.out _ _ ?_ (fun hHeldN => ?_)
  · (try dsimp only); (first | (simp [*, go_sem]; done) | (simp [*, go_sem, World.cell?_alloc_past]; done))
  clear hK K hHeld; have hHeld := hHeldN; clear hHeldN
  try simp only [Act.put, List.setIfInBounds_toArray, List.set_cons_zero, List.set_cons_succ]
  refine wpAnyH_take (i := 13) (oi := _) (v := ?_) (by simp only [List.getElem?_toArray, List.getElem?_cons_succ, List.getElem?_cons_zero]; rfl) (by kernel_rfl) (by kernel_rfl) (by kernel_rfl) (by exact fun _ _ _ h => h) (Or.inl ⟨by rfl, ?_⟩) (by assumption) ?_
  rotate_left 1
  · (intro w hSw; (try dsimp only at hSw); go_simp; try with_reducible rfl)
  try simp only [Act.put, List.setIfInBounds_toArray, List.set_cons_zero, List.set_cons_succ]
  refine wpAnyH_take (i := 14) (oi := _) (v := ?_) (by simp only [List.getElem?_toArray, List.getElem?_cons_succ, List.getElem?_cons_zero]; rfl) (by kernel_rfl) (by kernel_rfl) (by kernel_rfl) (by exact fun _ _ _ h => h) (Or.inl ⟨by rfl, ?_⟩) (by assumption) ?_
  rotate_left 1
  · (intro w hSw; (try dsimp only at hSw); go_simp; try with_reducible rfl)
  try simp only [Act.put, List.setIfInBounds_toArray, List.set_cons_zero, List.set_cons_succ]
  refine wpAnyH_take (i := 15) (oi := _) (v := ?_) (by simp only [List.getElem?_toArray, List.getElem?_cons_succ, List.getElem?_cons_zero]; rfl) (by kernel_rfl) (by kernel_rfl) (by kernel_rfl) (by exact fun _ _ _ h => h) (Or.inl ⟨by rfl, ?_⟩) (by assumption) ?_
  rotate_left 1
  · (intro w hSw; (try dsimp only at hSw); go_simp; try with_reducible rfl)
  try simp only [Act.put, List.setIfInBounds_toArray, List.set_cons_zero, List.set_cons_succ]
  refine wpAnyH_take (i := 16) (oi := _) (v := ?_) (by simp only [List.getElem?_toArray, List.getElem?_cons_succ, List.getElem?_cons_zero]; rfl) (by kernel_rfl) (by kernel_rfl) (by kernel_rfl) (by exact fun _ _ _ h => h) (Or.inl ⟨by rfl, ?_⟩) (by assumption) ?_
  rotate_left 1
  · (intro w hSw; (try dsimp only at hSw); go_simp; try with_reducible rfl)
  try simp only [Act.put, List.setIfInBounds_toArray, List.set_cons_zero, List.set_cons_succ]
  refine wpAnyH_take (i := 17) (oi := _) (v := ?_) (by simp only [List.getElem?_toArray, List.getElem?_cons_succ, List.getElem?_cons_zero]; rfl) (by kernel_rfl) (by kernel_rfl) (by kernel_rfl) (by exact fun _ _ _ h => h) (Or.inl ⟨by rfl, ?_⟩) (by assumption) ?_
  rotate_left 1
  · (intro w hSw; (try dsimp only at hSw); go_simp; try with_reducible rfl)
  try simp only [Act.put, List.setIfInBounds_toArray, List.set_cons_zero, List.set_cons_succ]
  refine wpAnyH_ready (rs := [18]) (by kernel_rfl) (by simp) ?_
  refine AllReadyH.cons (o := _) (by simp only [List.getElem?_toArray, List.getElem?_cons_succ, List.getElem?_cons_zero]; rfl) (fun K hK => ?_) AllReadyH.nil
  go_simp
  (go_at_call 30; (with_reducible refine ((K14.out) _).mono ?_); rintro e w18 ⟨rfl, hb⟩; obtain ⟨hclw18, hfrw18⟩ := bcell hb; have zw18_a : w.heap.size < w18.heap.size := (by first | omega | (have hz := hb.size; (try simp at hz); omega)); have yw18_a : w.heap.size < w18.heap.size + 1 := (by omega); have yyw18_a : w.heap.size < w18.heap.size + 1 + 1 := (by omega); have zw18_m : w3.heap.size < w18.heap.size := (by first | omega | (have hz := hb.size; (try simp at hz); omega)); have yw18_m : w3.heap.size < w18.heap.size + 1 := (by omega); have yyw18_m : w3.heap.size < w18.heap.size + 1 + 1 := (by omega); have zw18_n : bX1n < w18.heap.size := (by first | omega | (have hz := hb.size; (try simp at hz); omega)); have yw18_n : bX1n < w18.heap.size + 1 := (by omega); have yyw18_n : bX1n < w18.heap.size + 1 + 1 := (by omega); have zw18_o : bX2o < w18.heap.size := (by first | omega | (have hz := hb.size; (try simp at hz); omega)); have yw18_o : bX2o < w18.heap.size + 1 := (by omega); have yyw18_o : bX2o < w18.heap.size + 1 + 1 := (by omega); have zw18_q : w9.heap.size < w18.heap.size := (by first | omega | (have hz := hb.size; (try simp at hz); omega)); have yw18_q : w9.heap.size < w18.heap.size + 1 := (by omega); have yyw18_q : w9.heap.size < w18.heap.size + 1 + 1 := (by omega); have zw18_r : bX3r < w18.heap.size := (by first | omega | (have hz := hb.size; (try simp at hz); omega)); have yw18_r : bX3r < w18.heap.size + 1 := (by omega); have yyw18_r : bX3r < w18.heap.size + 1 + 1 := (by omega); have zw18_s : bX4s < w18.heap.size := (by first | omega | (have hz := hb.size; (try simp at hz); omega)); have yw18_s : bX4s < w18.heap.size + 1 := (by omega); have yyw18_s : bX4s < w18.heap.size + 1 + 1 := (by omega); have zw18_t : w15.heap.size < w18.heap.size := (by first | omega | (have hz := hb.size; (try simp at hz); omega)); have yw18_t : w15.heap.size < w18.heap.size + 1 := (by omega); have yyw18_t : w15.heap.size < w18.heap.size + 1 + 1 := (by omega); have sxw18_0 : R5.heap.size ≤ w18.heap.size := (by first | omega | (have hz := hb.size; (try simp at hz); omega)); have sxw18_w16 : w16.heap.size ≤ w18.heap.size := (by first | omega | (have hz := hb.size; (try simp at hz); omega)); have sxw18_w17 : w17.heap.size ≤ w18.heap.size := (by first | omega | (have hz := hb.size; (try simp at hz); omega)); have HBw18 : Hid (Below w.heap.size w w18) := (bl_trans (by repeat (first | with_reducible exact Below.refl _ _ | with_reducible exact Hid.out (by assumption) | with_reducible refine Below.setCell ?_ (by first | (simp; done) | omega | (simp <;> omega)) _ | with_reducible refine bl_al ?_ _ | with_reducible apply Below.drew)) hb); clear hb)
  try go_wp2_with fail
  refine hK.out _ _ ?_ (fun hHeldN => ?_)
  · (try dsimp only); (first | (simp [*, go_sem]; done) | (simp [*, go_sem, World.cell?_alloc_past]; done))
  clear hK K hHeld; have hHeld := hHeldN; clear hHeldN
  try simp only [Act.put, List.setIfInBounds_toArray, List.set_cons_zero, List.set_cons_succ]
  refine wpAnyH_take (i := 19) (oi := _) (v := ?_) (by simp only [List.getElem?_toArray, List.getElem?_cons_succ, List.getElem?_cons_zero]; rfl) (by kernel_rfl) (by kernel_rfl) (by kernel_rfl) (by exact fun _ _ _ h => h) (Or.inl ⟨by rfl, ?_⟩) (by assumption) ?_
  rotate_left 1
  · (intro w hSw; (try dsimp only at hSw); go_simp; try with_reducible rfl)
  try simp only [Act.put, List.setIfInBounds_toArray, List.set_cons_zero, List.set_cons_succ]
  refine wpAnyH_take (i := 20) (oi := _) (v := ?_) (by simp only [List.getElem?_toArray, List.getElem?_cons_succ, List.getElem?_cons_zero]; rfl) (by kernel_rfl) (by kernel_rfl) (by kernel_rfl) (by exact fun _ _ _ h => h) (Or.inl ⟨by rfl, ?_⟩) (by assumption) ?_
  rotate_left 1
  · (intro w hSw; (try dsimp only at hSw); go_simp; try with_reducible rfl)
  try simp only [Act.put, List.setIfInBounds_toArray, List.set_cons_zero, List.set_cons_succ]
  refine wpAnyH_take (i := 21) (oi := _) (v := ?_) (by simp only [List.getElem?_toArray, List.getElem?_cons_succ, List.getElem?_cons_zero]; rfl) (by kernel_rfl) (by kernel_rfl) (by kernel_rfl) (by exact fun _ _ _ h => h) (Or.inl ⟨by rfl, ?_⟩) (by assumption) ?_
  rotate_left 1
  · (intro w hSw; (try dsimp only at hSw); go_simp; try with_reducible rfl)
  try simp only [Act.put, List.setIfInBounds_toArray, List.set_cons_zero, List.set_cons_succ]
  refine wpAnyH_take (i := 22) (oi := _) (v := ?_) (by simp only [List.getElem?_toArray, List.getElem?_cons_succ, List.getElem?_cons_zero]; rfl) (by kernel_rfl) (by kernel_rfl) (by kernel_rfl) (by exact fun _ _ _ h => h) (Or.inl ⟨by rfl, ?_⟩) (by assumption) ?_
  rotate_left 1
  · (intro w hSw; (try dsimp only at hSw); go_simp; try with_reducible rfl)
  try simp only [Act.put, List.setIfInBounds_toArray, List.set_cons_zero, List.set_cons_succ]
  refine wpAnyH_take (i := 25) (oi := _) (v := ?_) (by simp only [List.getElem?_toArray, List.getElem?_cons_succ, List.getElem?_cons_zero]; rfl) (by kernel_rfl) (by kernel_rfl) (by kernel_rfl) (by exact fun _ _ _ h => h) (Or.inl ⟨by rfl, ?_⟩) (by assumption) ?_
  rotate_left 1
  · (intro w hSw; (try dsimp only at hSw); go_simp; try with_reducible rfl)
  try simp only [Act.put, List.setIfInBounds_toArray, List.set_cons_zero, List.set_cons_succ]
  refine wpAnyH_ready (rs := [23]) (by kernel_rfl) (by simp) ?_
  refine AllReadyH.cons (o := _) (by simp only [List.getElem?_toArray, List.getElem?_cons_succ, List.getElem?_cons_zero]; rfl) (fun K hK => ?_) AllReadyH.nil
  go_simp
  (go_at_call 30; (with_reducible refine ((K4.out) _).mono ?_); rintro e w19 ⟨rfl, hb⟩; obtain ⟨hclw19, hfrw19⟩ := bcell hb; have zw19_a : w.heap.size < w19.heap.size := (by first | omega | (have hz := hb.size; (try simp at hz); omega)); have yw19_a : w.heap.size < w19.heap.size + 1 := (by omega); have yyw19_a : w.heap.size < w19.heap.size + 1 + 1 := (by omega); have zw19_m : w3.heap.size < w19.heap.size := (by first | omega | (have hz := hb.size; (try simp at hz); omega)); have yw19_m : w3.heap.size < w19.heap.size + 1 := (by omega); have yyw19_m : w3.heap.size < w19.heap.size + 1 + 1 := (by omega); have zw19_n : bX1n < w19.heap.size := (by first | omega | (have hz := hb.size; (try simp at hz); omega)); have yw19_n : bX1n < w19.heap.size + 1 := (by omega); have yyw19_n : bX1n < w19.heap.size + 1 + 1 := (by omega); have zw19_o : bX2o < w19.heap.size := (by first | omega | (have hz := hb.size; (try simp at hz); omega)); have yw19_o : bX2o < w19.heap.size + 1 := (by omega); have yyw19_o : bX2o < w19.heap.size + 1 + 1 := (by omega); have zw19_q : w9.heap.size < w19.heap.size := (by first | omega | (have hz := hb.size; (try simp at hz); omega)); have yw19_q : w9.heap.size < w19.heap.size + 1 := (by omega); have yyw19_q : w9.heap.size < w19.heap.size + 1 + 1 := (by omega); have zw19_r : bX3r < w19.heap.size := (by first | omega | (have hz := hb.size; (try simp at hz); omega)); have yw19_r : bX3r < w19.heap.size + 1 := (by omega); have yyw19_r : bX3r < w19.heap.size + 1 + 1 := (by omega); have zw19_s : bX4s < w19.heap.size := (by first | omega | (have hz := hb.size; (try simp at hz); omega)); have yw19_s : bX4s < w19.heap.size + 1 := (by omega); have yyw19_s : bX4s < w19.heap.size + 1 + 1 := (by omega); have zw19_t : w15.heap.size < w19.heap.size := (by first | omega | (have hz := hb.size; (try simp at hz); omega)); have yw19_t : w15.heap.size < w19.heap.size + 1 := (by omega); have yyw19_t : w15.heap.size < w19.heap.size + 1 + 1 := (by omega); have sxw19_0 : R5.heap.size ≤ w19.heap.size := (by first | omega | (have hz := hb.size; (try simp at hz); omega)); have sxw19_w16 : w16.heap.size ≤ w19.heap.size := (by first | omega | (have hz := hb.size; (try simp at hz); omega)); have sxw19_w17 : w17.heap.size ≤ w19.heap.size := (by first | omega | (have hz := hb.size; (try simp at hz); omega)); have sxw19_w18 : w18.heap.size ≤ w19.heap.size := (by first | omega | (have hz := hb.size; (try simp at hz); omega)); have HBw19 : Hid (Below w.heap.size w w19) := (bl_trans (by repeat (first | with_reducible exact Below.refl _ _ | with_reducible exact Hid.out (by assumption) | with_reducible refine Below.setCell ?_ (by first | (simp; done) | omega | (simp <;> omega)) _ | with_reducible refine bl_al ?_ _ | with_reducible apply Below.drew)) hb); clear hb)
  try go_wp2_with fail
  refine hK.out _ _ ?_ (fun hHeldN => ?_)
  · (try dsimp only); (first | (simp [*, go_sem]; done) | (simp [*, go_sem, World.cell?_alloc_past]; done))
  clear hK K hHeld; have hHeld := hHeldN; clear hHeldN
  try simp only [Act.put, List.setIfInBounds_toArray, List.set_cons_zero, List.set_cons_succ]
  refine wpAnyH_ready (rs := [24]) (by kernel_rfl) (by simp) ?_
  refine AllReadyH.cons (o := _) (by simp only [List.getElem?_toArray, List.getElem?_cons_succ, List.getElem?_cons_zero]; rfl) (fun K hK => ?_) AllReadyH.nil
  go_simp
  (go_at_call 30; (with_reducible refine ((K15.out) _).mono ?_); rintro e w20 ⟨rfl, hb⟩; obtain ⟨hclw20, hfrw20⟩ := bcell hb; have zw20_a : w.heap.size < w20.heap.size := (by first | omega | (have hz := hb.size; (try simp at hz); omega)); have yw20_a : w.heap.size < w20.heap.size + 1 := (by omega); have yyw20_a : w.heap.size < w20.heap.size + 1 + 1 := (by omega); have zw20_m : w3.heap.size < w20.heap.size := (by first | omega | (have hz := hb.size; (try simp at hz); omega)); have yw20_m : w3.heap.size < w20.heap.size + 1 := (by omega); have yyw20_m : w3.heap.size < w20.heap.size + 1 + 1 := (by omega); have zw20_n : bX1n < w20.heap.size := (by first | omega | (have hz := hb.size; (try simp at hz); omega)); have yw20_n : bX1n < w20.heap.size + 1 := (by omega); have yyw20_n : bX1n < w20.heap.size + 1 + 1 := (by omega); have zw20_o : bX2o < w20.heap.size := (by first | omega | (have hz := hb.size; (try simp at hz); omega)); have yw20_o : bX2o < w20.heap.size + 1 := (by omega); have yyw20_o : bX2o < w20.heap.size + 1 + 1 := (by omega); have zw20_q : w9.heap.size < w20.heap.size := (by first | omega | (have hz := hb.size; (try simp at hz); omega)); have yw20_q : w9.heap.size < w20.heap.size + 1 := (by omega); have yyw20_q : w9.heap.size < w20.heap.size + 1 + 1 := (by omega); have zw20_r : bX3r < w20.heap.size := (by first | omega | (have hz := hb.size; (try simp at hz); omega)); have yw20_r : bX3r < w20.heap.size + 1 := (by omega); have yyw20_r : bX3r < w20.heap.size + 1 + 1 := (by omega); have zw20_s : bX4s < w20.heap.size := (by first | omega | (have hz := hb.size; (try simp at hz); omega)); have yw20_s : bX4s < w20.heap.size + 1 := (by omega); have yyw20_s : bX4s < w20.heap.size + 1 + 1 := (by omega); have zw20_t : w15.heap.size < w20.heap.size := (by first | omega | (have hz := hb.size; (try simp at hz); omega)); have yw20_t : w15.heap.size < w20.heap.size + 1 := (by omega); have yyw20_t : w15.heap.size < w20.heap.size + 1 + 1 := (by omega); have sxw20_0 : R5.heap.size ≤ w20.heap.size := (by first | omega | (have hz := hb.size; (try simp at hz); omega)); have sxw20_w16 : w16.heap.size ≤ w20.heap.size := (by first | omega | (have hz := hb.size; (try simp at hz); omega)); have sxw20_w17 : w17.heap.size ≤ w20.heap.size := (by first | omega | (have hz := hb.size; (try simp at hz); omega)); have sxw20_w18 : w18.heap.size ≤ w20.heap.size := (by first | omega | (have hz := hb.size; (try simp at hz); omega)); have sxw20_w19 : w19.heap.size ≤ w20.heap.size := (by first | omega | (have hz := hb.size; (try simp at hz); omega)); have HBw20 : Hid (Below w.heap.size w w20) := (bl_trans (by repeat (first | with_reducible exact Below.refl _ _ | with_reducible exact Hid.out (by assumption) | with_reducible refine Below.setCell ?_ (by first | (simp; done) | omega | (simp <;> omega)) _ | with_reducible refine bl_al ?_ _ | with_reducible apply Below.drew)) hb); clear hb)
  try go_wp2_with fail
  refine hK.out _ _ ?_ (fun hHeldN => ?_)
  · (try dsimp only); (first | (simp [*, go_sem]; done) | (simp [*, go_sem, World.cell?_alloc_past]; done))
  clear hK K hHeld; have hHeld := hHeldN; clear hHeldN
  try simp only [Act.put, List.setIfInBounds_toArray, List.set_cons_zero, List.set_cons_succ]
  refine wpAnyH_take (i := 26) (oi := _) (v := ?_) (by simp only [List.getElem?_toArray, List.getElem?_cons_succ, List.getElem?_cons_zero]; rfl) (by kernel_rfl) (by kernel_rfl) (by kernel_rfl) (by exact fun _ _ _ h => h) (Or.inl ⟨by rfl, ?_⟩) (by assumption) ?_
  rotate_left 1
  · (intro w hSw; (try dsimp only at hSw); go_simp; try with_reducible rfl)
  try simp only [Act.put, List.setIfInBounds_toArray, List.set_cons_zero, List.set_cons_succ]
  refine wpAnyH_take (i := 27) (oi := _) (v := ?_) (by simp only [List.getElem?_toArray, List.getElem?_cons_succ, List.getElem?_cons_zero]; rfl) (by kernel_rfl) (by kernel_rfl) (by kernel_rfl) (by exact fun _ _ _ h => h) (Or.inl ⟨by rfl, ?_⟩) (by assumption) ?_
  rotate_left 1
  · (intro w hSw; (try dsimp only at hSw); go_simp; try with_reducible rfl)
  try simp only [Act.put, List.setIfInBounds_toArray, List.set_cons_zero, List.set_cons_succ]
  refine wpAnyH_take (i := 28) (oi := _) (v := ?_) (by simp only [List.getElem?_toArray, List.getElem?_cons_succ, List.getElem?_cons_zero]; rfl) (by kernel_rfl) (by kernel_rfl) (by kernel_rfl) (by exact fun _ _ _ h => h) (Or.inl ⟨by rfl, ?_⟩) (by assumption) ?_
  rotate_left 1
  · (intro w hSw; (try dsimp only at hSw); go_simp; try with_reducible rfl)
  try simp only [Act.put, List.setIfInBounds_toArray, List.set_cons_zero, List.set_cons_succ]
  refine wpAnyH_take (i := 29) (oi := _) (v := ?_) (by simp only [List.getElem?_toArray, List.getElem?_cons_succ, List.getElem?_cons_zero]; rfl) (by kernel_rfl) (by kernel_rfl) (by kernel_rfl) (by exact fun _ _ _ h => h) (Or.inl ⟨by rfl, ?_⟩) (by assumption) ?_
  rotate_left 1
  · (intro w hSw; (try dsimp only at hSw); go_simp; try with_reducible rfl)
  try simp only [Act.put, List.setIfInBounds_toArray, List.set_cons_zero, List.set_cons_succ]
  refine wpAnyH_take (i := 32) (oi := _) (v := ?_) (by simp only [List.getElem?_toArray, List.getElem?_cons_succ, List.getElem?_cons_zero]; rfl) (by kernel_rfl) (by kernel_rfl) (by kernel_rfl) (by exact fun _ _ _ h => h) (Or.inl ⟨by rfl, ?_⟩) (by assumption) ?_
  rotate_left 1
  · (intro w hSw; (try dsimp only at hSw); go_simp; try with_reducible rfl)
  try simp only [Act.put, List.setIfInBounds_toArray, List.set_cons_zero, List.set_cons_succ]
  refine wpAnyH_ready (rs := [30]) (by kernel_rfl) (by simp) ?_
  refine AllReadyH.cons (o := _) (by simp only [List.getElem?_toArray, List.getElem?_cons_succ, List.getElem?_cons_zero]; rfl) (fun K hK => ?_) AllReadyH.nil
  go_simp
  (go_at_call 30; (with_reducible refine ((K4.out) _).mono ?_); rintro e w21 ⟨rfl, hb⟩; obtain ⟨hclw21, hfrw21⟩ := bcell hb; have zw21_a : w.heap.size < w21.heap.size := (by first | omega | (have hz := hb.size; (try simp at hz); omega)); have yw21_a : w.heap.size < w21.heap.size + 1 := (by omega); have yyw21_a : w.heap.size < w21.heap.size + 1 + 1 := (by omega); have zw21_m : w3.heap.size < w21.heap.size := (by first | omega | (have hz := hb.size; (try simp at hz); omega)); have yw21_m : w3.heap.size < w21.heap.size + 1 := (by omega); have yyw21_m : w3.heap.size < w21.heap.size + 1 + 1 := (by omega); have zw21_n : bX1n < w21.heap.size := (by first | omega | (have hz := hb.size; (try simp at hz); omega)); have yw21_n : bX1n < w21.heap.size + 1 := (by omega); have yyw21_n : bX1n < w21.heap.size + 1 + 1 := (by omega); have zw21_o : bX2o < w21.heap.size := (by first | omega | (have hz := hb.size; (try simp at hz); omega)); have yw21_o : bX2o < w21.heap.size + 1 := (by omega); have yyw21_o : bX2o < w21.heap.size + 1 + 1 := (by omega); have zw21_q : w9.heap.size < w21.heap.size := (by first | omega | (have hz := hb.size; (try simp at hz); omega)); have yw21_q : w9.heap.size < w21.heap.size + 1 := (by omega); have yyw21_q : w9.heap.size < w21.heap.size + 1 + 1 := (by omega); have zw21_r : bX3r < w21.heap.size := (by first | omega | (have hz := hb.size; (try simp at hz); omega)); have yw21_r : bX3r < w21.heap.size + 1 := (by omega); have yyw21_r : bX3r < w21.heap.size + 1 + 1 := (by omega); have zw21_s : bX4s < w21.heap.size := (by first | omega | (have hz := hb.size; (try simp at hz); omega)); have yw21_s : bX4s < w21.heap.size + 1 := (by omega); have yyw21_s : bX4s < w21.heap.size + 1 + 1 := (by omega); have zw21_t : w15.heap.size < w21.heap.size := (by first | omega | (have hz := hb.size; (try simp at hz); omega)); have yw21_t : w15.heap.size < w21.heap.size + 1 := (by omega); have yyw21_t : w15.heap.size < w21.heap.size + 1 + 1 := (by omega); have sxw21_0 : R5.heap.size ≤ w21.heap.size := (by first | omega | (have hz := hb.size; (try simp at hz); omega)); have sxw21_w16 : w16.heap.size ≤ w21.heap.size := (by first | omega | (have hz := hb.size; (try simp at hz); omega)); have sxw21_w17 : w17.heap.size ≤ w21.heap.size := (by first | omega | (have hz := hb.size; (try simp at hz); omega)); have sxw21_w18 : w18.heap.size ≤ w21.heap.size := (by first | omega | (have hz := hb.size; (try simp at hz); omega)); have sxw21_w19 : w19.heap.size ≤ w21.heap.size := (by first | omega | (have hz := hb.size; (try simp at hz); omega)); have sxw21_w20 : w20.heap.size ≤ w21.heap.size := (by first | omega | (have hz := hb.size; (try simp at hz); omega)); have HBw21 : Hid (Below w.heap.size w w21) := (bl_trans (by repeat (first | with_reducible exact Below.refl _ _ | with_reducible exact Hid.out (by assumption) | with_reducible refine Below.setCell ?_ (by first | (simp; done) | omega | (simp <;> omega)) _ | with_reducible refine bl_al ?_ _ | with_reducible apply Below.drew)) hb); clear hb)
  try go_wp2_with fail
  refine hK.out _ _ ?_ (fun hHeldN => ?_)
  · (try dsimp only); (first | (simp [*, go_sem]; done) | (simp [*, go_sem, World.cell?_alloc_past]; done))
  clear hK K hHeld; have hHeld := hHeldN; clear hHeldN
  try simp only [Act.put, List.setIfInBounds_toArray, List.set_cons_zero, List.set_cons_succ]
  refine wpAnyH_ready (rs := [31]) (by kernel_rfl) (by simp) ?_
  refine AllReadyH.cons (o := _) (by simp only [List.getElem?_toArray, List.getElem?_cons_succ, List.getElem?_cons_zero]; rfl) (fun K hK => ?_) AllReadyH.nil
  go_simp
  (go_at_call 32; (with_reducible refine ((K16.out) _).mono ?_); rintro e w22 ⟨rfl, hb⟩; obtain ⟨hclw22, hfrw22⟩ := bcell hb; have zw22_a : w.heap.size < w22.heap.size := (by first | omega | (have hz := hb.size; (try simp at hz); omega)); have yw22_a : w.heap.size < w22.heap.size + 1 := (by omega); have yyw22_a : w.heap.size < w22.heap.size + 1 + 1 := (by omega); have zw22_m : w3.heap.size < w22.heap.size := (by first | omega | (have hz := hb.size; (try simp at hz); omega)); have yw22_m : w3.heap.size < w22.heap.size + 1 := (by omega); have yyw22_m : w3.heap.size < w22.heap.size + 1 + 1 := (by omega); have zw22_n : bX1n < w22.heap.size := (by first | omega | (have hz := hb.size; (try simp at hz); omega)); have yw22_n : bX1n < w22.heap.size + 1 := (by omega); have yyw22_n : bX1n < w22.heap.size + 1 + 1 := (by omega); have zw22_o : bX2o < w22.heap.size := (by first | omega | (have hz := hb.size; (try simp at hz); omega)); have yw22_o : bX2o < w22.heap.size + 1 := (by omega); have yyw22_o : bX2o < w22.heap.size + 1 + 1 := (by omega); have zw22_q : w9.heap.size < w22.heap.size := (by first | omega | (have hz := hb.size; (try simp at hz); omega)); have yw22_q : w9.heap.size < w22.heap.size + 1 := (by omega); have yyw22_q : w9.heap.size < w22.heap.size + 1 + 1 := (by omega); have zw22_r : bX3r < w22.heap.size := (by first | omega | (have hz := hb.size; (try simp at hz); omega)); have yw22_r : bX3r < w22.heap.size + 1 := (by omega); have yyw22_r : bX3r < w22.heap.size + 1 + 1 := (by omega); have zw22_s : bX4s < w22.heap.size := (by first | omega | (have hz := hb.size; (try simp at hz); omega)); have yw22_s : bX4s < w22.heap.size + 1 := (by omega); have yyw22_s : bX4s < w22.heap.size + 1 + 1 := (by omega); have zw22_t : w15.heap.size < w22.heap.size := (by first | omega | (have hz := hb.size; (try simp at hz); omega)); have yw22_t : w15.heap.size < w22.heap.size + 1 := (by omega); have yyw22_t : w15.heap.size < w22.heap.size + 1 + 1 := (by omega); have sxw22_0 : R5.heap.size ≤ w22.heap.size := (by first | omega | (have hz := hb.size; (try simp at hz); omega)); have sxw22_w16 : w16.heap.size ≤ w22.heap.size := (by first | omega | (have hz := hb.size; (try simp at hz); omega)); have sxw22_w17 : w17.heap.size ≤ w22.heap.size := (by first | omega | (have hz := hb.size; (try simp at hz); omega)); have sxw22_w18 : w18.heap.size ≤ w22.heap.size := (by first | omega | (have hz := hb.size; (try simp at hz); omega)); have sxw22_w19 : w19.heap.size ≤ w22.heap.size := (by first | omega | (have hz := hb.size; (try simp at hz); omega)); have sxw22_w20 : w20.heap.size ≤ w22.heap.size := (by first | omega | (have hz := hb.size; (try simp at hz); omega)); have sxw22_w21 : w21.heap.size ≤ w22.heap.size := (by first | omega | (have hz := hb.size; (try simp at hz); omega)); have HBw22 : Hid (Below w.heap.size w w22) := (bl_trans (by repeat (first | with_reducible exact Below.refl _ _ | with_reducible exact Hid.out (by assumption) | with_reducible refine Below.setCell ?_ (by first | (simp; done) | omega | (simp <;> omega)) _ | with_reducible refine bl_al ?_ _ | with_reducible apply Below.drew)) hb); clear hb)
  try go_wp2_with fail
  refine hK.out _ _ ?_ (fun hHeldN => ?_)
  · (try dsimp only); (first | (simp [*, go_sem]; done) | (simp [*, go_sem, World.cell?_alloc_past]; done))
  clear hK K hHeld; have hHeld := hHeldN; clear hHeldN
  try simp only [Act.put, List.setIfInBounds_toArray, List.set_cons_zero, List.set_cons_succ]
  refine wpAnyH_ready (rs := [33]) (by kernel_rfl) (by simp) ?_
  refine AllReadyH.cons (o := _) (by simp only [List.getElem?_toArray, List.getElem?_cons_succ, List.getElem?_cons_zero]; rfl) (fun K hK => ?_) AllReadyH.nil
  go_simp
  (go_at_call 32; (with_reducible refine ((K17.out) _).mono ?_); rintro e w23 ⟨rfl, hb⟩; obtain ⟨hclw23, hfrw23⟩ := bcell hb; have zw23_a : w.heap.size < w23.heap.size := (by first | omega | (have hz := hb.size; (try simp at hz); omega)); have yw23_a : w.heap.size < w23.heap.size + 1 := (by omega); have yyw23_a : w.heap.size < w23.heap.size + 1 + 1 := (by omega); have zw23_m : w3.heap.size < w23.heap.size := (by first | omega | (have hz := hb.size; (try simp at hz); omega)); have yw23_m : w3.heap.size < w23.heap.size + 1 := (by omega); have yyw23_m : w3.heap.size < w23.heap.size + 1 + 1 := (by omega); have zw23_n : bX1n < w23.heap.size := (by first | omega | (have hz := hb.size; (try simp at hz); omega)); have yw23_n : bX1n < w23.heap.size + 1 := (by omega); have yyw23_n : bX1n < w23.heap.size + 1 + 1 := (by omega); have zw23_o : bX2o < w23.heap.size := (by first | omega | (have hz := hb.size; (try simp at hz); omega)); have yw23_o : bX2o < w23.heap.size + 1 := (by omega); have yyw23_o : bX2o < w23.heap.size + 1 + 1 := (by omega); have zw23_q : w9.heap.size < w23.heap.size := (by first | omega | (have hz := hb.size; (try simp at hz); omega)); have yw23_q : w9.heap.size < w23.heap.size + 1 := (by omega); have yyw23_q : w9.heap.size < w23.heap.size + 1 + 1 := (by omega); have zw23_r : bX3r < w23.heap.size := (by first | omega | (have hz := hb.size; (try simp at hz); omega)); have yw23_r : bX3r < w23.heap.size + 1 := (by omega); have yyw23_r : bX3r < w23.heap.size + 1 + 1 := (by omega); have zw23_s : bX4s < w23.heap.size := (by first | omega | (have hz := hb.size; (try simp at hz); omega)); have yw23_s : bX4s < w23.heap.size + 1 := (by omega); have yyw23_s : bX4s < w23.heap.size + 1 + 1 := (by omega); have zw23_t : w15.heap.size < w23.heap.size := (by first | omega | (have hz := hb.size; (try simp at hz); omega)); have yw23_t : w15.heap.size < w23.heap.size + 1 := (by omega); have yyw23_t : w15.heap.size < w23.heap.size + 1 + 1 := (by omega); have sxw23_0 : R5.heap.size ≤ w23.heap.size := (by first | omega | (have hz := hb.size; (try simp at hz); omega)); have sxw23_w16 : w16.heap.size ≤ w23.heap.size := (by first | omega | (have hz := hb.size; (try simp at hz); omega)); have sxw23_w17 : w17.heap.size ≤ w23.heap.size := (by first | omega | (have hz := hb.size; (try simp at hz); omega)); have sxw23_w18 : w18.heap.size ≤ w23.heap.size := (by first | omega | (have hz := hb.size; (try simp at hz); omega)); have sxw23_w19 : w19.heap.size ≤ w23.heap.size := (by first | omega | (have hz := hb.size; (try simp at hz); omega)); have sxw23_w20 : w20.heap.size ≤ w23.heap.size := (by first | omega | (have hz := hb.size; (try simp at hz); omega)); have sxw23_w21 : w21.heap.size ≤ w23.heap.size := (by first | omega | (have hz := hb.size; (try simp at hz); omega)); have sxw23_w22 : w22.heap.size ≤ w23.heap.size := (by first | omega | (have hz := hb.size; (try simp at hz); omega)); have HBw23 : Hid (Below w.heap.size w w23) := (bl_trans (by repeat (first | with_reducible exact Below.refl _ _ | with_reducible exact Hid.out (by assumption) | with_reducible refine Below.setCell ?_ (by first | (simp; done) | omega | (simp <;> omega)) _ | with_reducible refine bl_al ?_ _ | with_reducible apply Below.drew)) hb); clear hb)
  try go_wp2_with fail
  refine hK.out _ _ ?_ (fun hHeldN => ?_)
  · (try dsimp only); (first | (simp [*, go_sem]; done) | (simp [*, go_sem, World.cell?_alloc_past]; done))
  clear hK K hHeld; have hHeld := hHeldN; clear hHeldN
  try simp only [Act.put, List.setIfInBounds_toArray, List.set_cons_zero, List.set_cons_succ]
  refine wpAnyH_ready (rs := [34]) (by kernel_rfl) (by simp) ?_
  refine AllReadyH.cons (o := _) (by simp only [List.getElem?_toArray, List.getElem?_cons_succ, List.getElem?_cons_zero]; rfl) (fun K hK => ?_) AllReadyH.nil
  go_simp
  (go_at_call 30; (with_reducible refine ((K18.out) _).mono ?_); rintro e w24 ⟨rfl, hb⟩; obtain ⟨hclw24, hfrw24⟩ := bcell hb; have zw24_a : w.heap.size < w24.heap.size := (by first | omega | (have hz := hb.size; (try simp at hz); omega)); have yw24_a : w.heap.size < w24.heap.size + 1 := (by omega); have yyw24_a : w.heap.size < w24.heap.size + 1 + 1 := (by omega); have zw24_m : w3.heap.size < w24.heap.size := (by first | omega | (have hz := hb.size; (try simp at hz); omega)); have yw24_m : w3.heap.size < w24.heap.size + 1 := (by omega); have yyw24_m : w3.heap.size < w24.heap.size + 1 + 1 := (by omega); have zw24_n : bX1n < w24.heap.size := (by first | omega | (have hz := hb.size; (try simp at hz); omega)); have yw24_n : bX1n < w24.heap.size + 1 := (by omega); have yyw24_n : bX1n < w24.heap.size + 1 + 1 := (by omega); have zw24_o : bX2o < w24.heap.size := (by first | omega | (have hz := hb.size; (try simp at hz); omega)); have yw24_o : bX2o < w24.heap.size + 1 := (by omega); have yyw24_o : bX2o < w24.heap.size + 1 + 1 := (by omega); have zw24_q : w9.heap.size < w24.heap.size := (by first | omega | (have hz := hb.size; (try simp at hz); omega)); have yw24_q : w9.heap.size < w24.heap.size + 1 := (by omega); have yyw24_q : w9.heap.size < w24.heap.size + 1 + 1 := (by omega); have zw24_r : bX3r < w24.heap.size := (by first | omega | (have hz := hb.size; (try simp at hz); omega)); have yw24_r : bX3r < w24.heap.size + 1 := (by omega); have yyw24_r : bX3r < w24.heap.size + 1 + 1 := (by omega); have zw24_s : bX4s < w24.heap.size := (by first | omega | (have hz := hb.size; (try simp at hz); omega)); have yw24_s : bX4s < w24.heap.size + 1 := (by omega); have yyw24_s : bX4s < w24.heap.size + 1 + 1 := (by omega); have zw24_t : w15.heap.size < w24.heap.size := (by first | omega | (have hz := hb.size; (try simp at hz); omega)); have yw24_t : w15.heap.size < w24.heap.size + 1 := (by omega); have yyw24_t : w15.heap.size < w24.heap.size + 1 + 1 := (by omega); have sxw24_0 : R5.heap.size ≤ w24.heap.size := (by first | omega | (have hz := hb.size; (try simp at hz); omega)); have sxw24_w16 : w16.heap.size ≤ w24.heap.size := (by first | omega | (have hz := hb.size; (try simp at hz); omega)); have sxw24_w17 : w17.heap.size ≤ w24.heap.size := (by first | omega | (have hz := hb.size; (try simp at hz); omega)); have sxw24_w18 : w18.heap.size ≤ w24.heap.size := (by first | omega | (have hz := hb.size; (try simp at hz); omega)); have sxw24_w19 : w19.heap.size ≤ w24.heap.size := (by first | omega | (have hz := hb.size; (try simp at hz); omega)); have sxw24_w20 : w20.heap.size ≤ w24.heap.size := (by first | omega | (have hz := hb.size; (try simp at hz); omega)); have sxw24_w21 : w21.heap.size ≤ w24.heap.size := (by first | omega | (have hz := hb.size; (try simp at hz); omega)); have sxw24_w22 : w22.heap.size ≤ w24.heap.size := (by first | omega | (have hz := hb.size; (try simp at hz); omega)); have sxw24_w23 : w23.heap.size ≤ w24.heap.size := (by first | omega | (have hz := hb.size; (try simp at hz); omega)); have HBw24 : Hid (Below w.heap.size w w24) := (bl_trans (by repeat (first | with_reducible exact Below.refl _ _ | with_reducible exact Hid.out (by assumption) | with_reducible refine Below.setCell ?_ (by first | (simp; done) | omega | (simp <;> omega)) _ | with_reducible refine bl_al ?_ _ | with_reducible apply Below.drew)) hb); clear hb)
  try go_wp2_with fail
  refine hK.out _ _ ?_ (fun hHeldN => ?_)
  · (try dsimp only); (first | (simp [*, go_sem]; done) | (simp [*, go_sem, World.cell?_alloc_past]; done))
  clear hK K hHeld; have hHeld := hHeldN; clear hHeldN
  try simp only [Act.put, List.setIfInBounds_toArray, List.set_cons_zero, List.set_cons_succ]
  refine wpAnyH_take (i := 35) (oi := _) (v := ?_) (by simp only [List.getElem?_toArray, List.getElem?_cons_succ, List.getElem?_cons_zero]; rfl) (by kernel_rfl) (by kernel_rfl) (by kernel_rfl) (by exact fun _ _ _ h => h) (Or.inl ⟨by rfl, ?_⟩) (by assumption) ?_
  rotate_left 1
  · (intro w hSw; (try dsimp only at hSw); go_simp; try with_reducible rfl)
  try simp only [Act.put, List.setIfInBounds_toArray, List.set_cons_zero, List.set_cons_succ]
  refine wpAnyH_take (i := 36) (oi := _) (v := ?_) (by simp only [List.getElem?_toArray, List.getElem?_cons_succ, List.getElem?_cons_zero]; rfl) (by kernel_rfl) (by kernel_rfl) (by kernel_rfl) (by exact fun _ _ _ h => h) (Or.inl ⟨by rfl, ?_⟩) (by assumption) ?_
  rotate_left 1
  · (intro w hSw; (try dsimp only at hSw); go_simp; try with_reducible rfl)
  try simp only [Act.put, List.setIfInBounds_toArray, List.set_cons_zero, List.set_cons_succ]
  refine wpAnyH_take (i := 37) (oi := _) (v := ?_) (by simp only [List.getElem?_toArray, List.getElem?_cons_succ, List.getElem?_cons_zero]; rfl) (by kernel_rfl) (by kernel_rfl) (by kernel_rfl) (by exact fun _ _ _ h => h) (Or.inl ⟨by rfl, ?_⟩) (by assumption) ?_
  rotate_left 1
  · (intro w hSw; (try dsimp only at hSw); go_simp; try with_reducible rfl)
  try simp only [Act.put, List.setIfInBounds_toArray, List.set_cons_zero, List.set_cons_succ]
  refine wpAnyH_take (i := 38) (oi := _) (v := ?_) (by simp only [List.getElem?_toArray, List.getElem?_cons_succ, List.getElem?_cons_zero]; rfl) (by kernel_rfl) (by kernel_rfl) (by kernel_rfl) (by exact fun _ _ _ h => h) (Or.inl ⟨by rfl, ?_⟩) (by assumption) ?_
  rotate_left 1
  · (intro w hSw; (try dsimp only at hSw); go_simp; try with_reducible rfl)
  try simp only [Act.put, List.setIfInBounds_toArray, List.set_cons_zero, List.set_cons_succ]
  refine wpAnyH_take (i := 41) (oi := _) (v := ?_) (by simp only [List.getElem?_toArray, List.getElem?_cons_succ, List.getElem?_cons_zero]; rfl) (by kernel_rfl) (by kernel_rfl) (by kernel_rfl) (by exact fun _ _ _ h => h) (Or.inl ⟨by rfl, ?_⟩) (by assumption) ?_
  rotate_left 1
  · (intro w hSw; (try dsimp only at hSw); go_simp; try with_reducible rfl)
  try simp only [Act.put, List.setIfInBounds_toArray, List.set_cons_zero, List.set_cons_succ]
  refine wpAnyH_ready (rs := [39]) (by kernel_rfl) (by simp) ?_
  refine AllReadyH.cons (o := _) (by simp only [List.getElem?_toArray, List.getElem?_cons_succ, List.getElem?_cons_zero]; rfl) (fun K hK => ?_) AllReadyH.nil
  go_simp
  (go_at_call 30; (with_reducible refine ((K4.out) _).mono ?_); rintro e w25 ⟨rfl, hb⟩; obtain ⟨hclw25, hfrw25⟩ := bcell hb; have zw25_a : w.heap.size < w25.heap.size := (by first | omega | (have hz := hb.size; (try simp at hz); omega)); have yw25_a : w.heap.size < w25.heap.size + 1 := (by omega); have yyw25_a : w.heap.size < w25.heap.size + 1 + 1 := (by omega); have zw25_m : w3.heap.size < w25.heap.size := (by first | omega | (have hz := hb.size; (try simp at hz); omega)); have yw25_m : w3.heap.size < w25.heap.size + 1 := (by omega); have yyw25_m : w3.heap.size < w25.heap.size + 1 + 1 := (by omega); have zw25_n : bX1n < w25.heap.size := (by first | omega | (have hz := hb.size; (try simp at hz); omega)); have yw25_n : bX1n < w25.heap.size + 1 := (by omega); have yyw25_n : bX1n < w25.heap.size + 1 + 1 := (by omega); have zw25_o : bX2o < w25.heap.size := (by first | omega | (have hz := hb.size; (try simp at hz); omega)); have yw25_o : bX2o < w25.heap.size + 1 := (by omega); have yyw25_o : bX2o < w25.heap.size + 1 + 1 := (by omega); have zw25_q : w9.heap.size < w25.heap.size := (by first | omega | (have hz := hb.size; (try simp at hz); omega)); have yw25_q : w9.heap.size < w25.heap.size + 1 := (by omega); have yyw25_q : w9.heap.size < w25.heap.size + 1 + 1 := (by omega); have zw25_r : bX3r < w25.heap.size := (by first | omega | (have hz := hb.size; (try simp at hz); omega)); have yw25_r : bX3r < w25.heap.size + 1 := (by omega); have yyw25_r : bX3r < w25.heap.size + 1 + 1 := (by omega); have zw25_s : bX4s < w25.heap.size := (by first | omega | (have hz := hb.size; (try simp at hz); omega)); have yw25_s : bX4s < w25.heap.size + 1 := (by omega); have yyw25_s : bX4s < w25.heap.size + 1 + 1 := (by omega); have zw25_t : w15.heap.size < w25.heap.size := (by first | omega | (have hz := hb.size; (try simp at hz); omega)); have yw25_t : w15.heap.size < w25.heap.size + 1 := (by omega); have yyw25_t : w15.heap.size < w25.heap.size + 1 + 1 := (by omega); have sxw25_0 : R5.heap.size ≤ w25.heap.size := (by first | omega | (have hz := hb.size; (try simp at hz); omega)); have sxw25_w16 : w16.heap.size ≤ w25.heap.size := (by first | omega | (have hz := hb.size; (try simp at hz); omega)); have sxw25_w17 : w17.heap.size ≤ w25.heap.size := (by first | omega | (have hz := hb.size; (try simp at hz); omega)); have sxw25_w18 : w18.heap.size ≤ w25.heap.size := (by first | omega | (have hz := hb.size; (try simp at hz); omega)); have sxw25_w19 : w19.heap.size ≤ w25.heap.size := (by first | omega | (have hz := hb.size; (try simp at hz); omega)); have sxw25_w20 : w20.heap.size ≤ w25.heap.size := (by first | omega | (have hz := hb.size; (try simp at hz); omega)); have sxw25_w21 : w21.heap.size ≤ w25.heap.size := (by first | omega | (have hz := hb.size; (try simp at hz); omega)); have sxw25_w22 : w22.heap.size ≤ w25.heap.size := (by first | omega | (have hz := hb.size; (try simp at hz); omega)); have sxw25_w23 : w23.heap.size ≤ w25.heap.size := (by first | omega | (have hz := hb.size; (try simp at hz); omega)); have sxw25_w24 : w24.heap.size ≤ w25.heap.size := (by first | omega | (have hz := hb.size; (try simp at hz); omega)); have HBw25 : Hid (Below w.heap.size w w25) := (bl_trans (by repeat (first | with_reducible exact Below.refl _ _ | with_reducible exact Hid.out (by assumption) | with_reducible refine Below.setCell ?_ (by first | (simp; done) | omega | (simp <;> omega)) _ | with_reducible refine bl_al ?_ _ | with_reducible apply Below.drew)) hb); clear hb)
  try go_wp2_with fail
  refine hK.out _ _ ?_ (fun hHeldN => ?_)
  · (try dsimp only); (first | (simp [*, go_sem]; done) | (simp [*, go_sem, World.cell?_alloc_past]; done))
  clear hK K hHeld; have hHeld := hHeldN; clear hHeldN
  try simp only [Act.put, List.setIfInBounds_toArray, List.set_cons_zero, List.set_cons_succ]
  refine wpAnyH_ready (rs := [40]) (by kernel_rfl) (by simp) ?_
  refine AllReadyH.cons (o := _) (by simp only [List.getElem?_toArray, List.getElem?_cons_succ, List.getElem?_cons_zero]; rfl) (fun K hK => ?_) AllReadyH.nil
  go_simp
  (go_at_call 35; (with_reducible refine ((K19.out) _).mono ?_); rintro e w26 ⟨rfl, hb⟩; obtain ⟨hclw26, hfrw26⟩ := bcell hb; have zw26_a : w.heap.size < w26.heap.size := (by first | omega | (have hz := hb.size; (try simp at hz); omega)); have yw26_a : w.heap.size < w26.heap.size + 1 := (by omega); have yyw26_a : w.heap.size < w26.heap.size + 1 + 1 := (by omega); have zw26_m : w3.heap.size < w26.heap.size := (by first | omega | (have hz := hb.size; (try simp at hz); omega)); have yw26_m : w3.heap.size < w26.heap.size + 1 := (by omega); have yyw26_m : w3.heap.size < w26.heap.size + 1 + 1 := (by omega); have zw26_n : bX1n < w26.heap.size := (by first | omega | (have hz := hb.size; (try simp at hz); omega)); have yw26_n : bX1n < w26.heap.size + 1 := (by omega); have yyw26_n : bX1n < w26.heap.size + 1 + 1 := (by omega); have zw26_o : bX2o < w26.heap.size := (by first | omega | (have hz := hb.size; (try simp at hz); omega)); have yw26_o : bX2o < w26.heap.size + 1 := (by omega); have yyw26_o : bX2o < w26.heap.size + 1 + 1 := (by omega); have zw26_q : w9.heap.size < w26.heap.size := (by first | omega | (have hz := hb.size; (try simp at hz); omega)); have yw26_q : w9.heap.size < w26.heap.size + 1 := (by omega); have yyw26_q : w9.heap.size < w26.heap.size + 1 + 1 := (by omega); have zw26_r : bX3r < w26.heap.size := (by first | omega | (have hz := hb.size; (try simp at hz); omega)); have yw26_r : bX3r < w26.heap.size + 1 := (by omega); have yyw26_r : bX3r < w26.heap.size + 1 + 1 := (by omega); have zw26_s : bX4s < w26.heap.size := (by first | omega | (have hz := hb.size; (try simp at hz); omega)); have yw26_s : bX4s < w26.heap.size + 1 := (by omega); have yyw26_s : bX4s < w26.heap.size + 1 + 1 := (by omega); have zw26_t : w15.heap.size < w26.heap.size := (by first | omega | (have hz := hb.size; (try simp at hz); omega)); have yw26_t : w15.heap.size < w26.heap.size + 1 := (by omega); have yyw26_t : w15.heap.size < w26.heap.size + 1 + 1 := (by omega); have sxw26_0 : R5.heap.size ≤ w26.heap.size := (by first | omega | (have hz := hb.size; (try simp at hz); omega)); have sxw26_w16 : w16.heap.size ≤ w26.heap.size := (by first | omega | (have hz := hb.size; (try simp at hz); omega)); have sxw26_w17 : w17.heap.size ≤ w26.heap.size := (by first | omega | (have hz := hb.size; (try simp at hz); omega)); have sxw26_w18 : w18.heap.size ≤ w26.heap.size := (by first | omega | (have hz := hb.size; (try simp at hz); omega)); have sxw26_w19 : w19.heap.size ≤ w26.heap.size := (by first | omega | (have hz := hb.size; (try simp at hz); omega)); have sxw26_w20 : w20.heap.size ≤ w26.heap.size := (by first | omega | (have hz := hb.size; (try simp at hz); omega)); have sxw26_w21 : w21.heap.size ≤ w26.heap.size := (by first | omega | (have hz := hb.size; (try simp at hz); omega)); have sxw26_w22 : w22.heap.size ≤ w26.heap.size := (by first | omega | (have hz := hb.size; (try simp at hz); omega)); have sxw26_w23 : w23.heap.size ≤ w26.heap.size := (by first | omega | (have hz := hb.size; (try simp at hz); omega)); have sxw26_w24 : w24.heap.size ≤ w26.heap.size := (by first | omega | (have hz := hb.size; (try simp at hz); omega)); have sxw26_w25 : w25.heap.size ≤ w26.heap.size := (by first | omega | (have hz := hb.size; (try simp at hz); omega)); have HBw26 : Hid (Below w.heap.size w w26) := (bl_trans (by repeat (first | with_reducible exact Below.refl _ _ | with_reducible exact Hid.out (by assumption) | with_reducible refine Below.setCell ?_ (by first | (simp; done) | omega | (simp <;> omega)) _ | with_reducible refine bl_al ?_ _ | with_reducible apply Below.drew)) hb); clear hb)
  try go_wp2_with fail
  refine hK.out _ _ ?_ (fun hHeldN => ?_)
  · (try dsimp only); (first | (simp [*, go_sem]; done) | (simp [*, go_sem, World.cell?_alloc_past]; done))
  clear hK K hHeld; have hHeld := hHeldN; clear hHeldN
  try simp only [Act.put, List.setIfInBounds_toArray, List.set_cons_zero, List.set_cons_succ]
  refine wpAnyH_ready (rs := [42]) (by kernel_rfl) (by simp) ?_
  refine AllReadyH.cons (o := _) (by simp only [List.getElem?_toArray, List.getElem?_cons_succ, List.getElem?_cons_zero]; rfl) (fun K hK => ?_) AllReadyH.nil
  go_simp
  (go_at_call 35; (with_reducible refine ((K20.out) _).mono ?_); rintro e w27 ⟨rfl, hb⟩; obtain ⟨hclw27, hfrw27⟩ := bcell hb; have zw27_a : w.heap.size < w27.heap.size := (by first | omega | (have hz := hb.size; (try simp at hz); omega)); have yw27_a : w.heap.size < w27.heap.size + 1 := (by omega); have yyw27_a : w.heap.size < w27.heap.size + 1 + 1 := (by omega); have zw27_m : w3.heap.size < w27.heap.size := (by first | omega | (have hz := hb.size; (try simp at hz); omega)); have yw27_m : w3.heap.size < w27.heap.size + 1 := (by omega); have yyw27_m : w3.heap.size < w27.heap.size + 1 + 1 := (by omega); have zw27_n : bX1n < w27.heap.size := (by first | omega | (have hz := hb.size; (try simp at hz); omega)); have yw27_n : bX1n < w27.heap.size + 1 := (by omega); have yyw27_n : bX1n < w27.heap.size + 1 + 1 := (by omega); have zw27_o : bX2o < w27.heap.size := (by first | omega | (have hz := hb.size; (try simp at hz); omega)); have yw27_o : bX2o < w27.heap.size + 1 := (by omega); have yyw27_o : bX2o < w27.heap.size + 1 + 1 := (by omega); have zw27_q : w9.heap.size < w27.heap.size := (by first | omega | (have hz := hb.size; (try simp at hz); omega)); have yw27_q : w9.heap.size < w27.heap.size + 1 := (by omega); have yyw27_q : w9.heap.size < w27.heap.size + 1 + 1 := (by omega); have zw27_r : bX3r < w27.heap.size := (by first | omega | (have hz := hb.size; (try simp at hz); omega)); have yw27_r : bX3r < w27.heap.size + 1 := (by omega); have yyw27_r : bX3r < w27.heap.size + 1 + 1 := (by omega); have zw27_s : bX4s < w27.heap.size := (by first | omega | (have hz := hb.size; (try simp at hz); omega)); have yw27_s : bX4s < w27.heap.size + 1 := (by omega); have yyw27_s : bX4s < w27.heap.size + 1 + 1 := (by omega); have zw27_t : w15.heap.size < w27.heap.size := (by first | omega | (have hz := hb.size; (try simp at hz); omega)); have yw27_t : w15.heap.size < w27.heap.size + 1 := (by omega); have yyw27_t : w15.heap.size < w27.heap.size + 1 + 1 := (by omega); have sxw27_0 : R5.heap.size ≤ w27.heap.size := (by first | omega | (have hz := hb.size; (try simp at hz); omega)); have sxw27_w16 : w16.heap.size ≤ w27.heap.size := (by first | omega | (have hz := hb.size; (try simp at hz); omega)); have sxw27_w17 : w17.heap.size ≤ w27.heap.size := (by first | omega | (have hz := hb.size; (try simp at hz); omega)); have sxw27_w18 : w18.heap.size ≤ w27.heap.size := (by first | omega | (have hz := hb.size; (try simp at hz); omega)); have sxw27_w19 : w19.heap.size ≤ w27.heap.size := (by first | omega | (have hz := hb.size; (try simp at hz); omega)); have sxw27_w20 : w20.heap.size ≤ w27.heap.size := (by first | omega | (have hz := hb.size; (try simp at hz); omega)); have sxw27_w21 : w21.heap.size ≤ w27.heap.size := (by first | omega | (have hz := hb.size; (try simp at hz); omega)); have sxw27_w22 : w22.heap.size ≤ w27.heap.size := (by first | omega | (have hz := hb.size; (try simp at hz); omega)); have sxw27_w23 : w23.heap.size ≤ w27.heap.size := (by first | omega | (have hz := hb.size; (try simp at hz); omega)); have sxw27_w24 : w24.heap.size ≤ w27.heap.size := (by first | omega | (have hz := hb.size; (try simp at hz); omega)); have sxw27_w25 : w25.heap.size ≤ w27.heap.size := (by first | omega | (have hz := hb.size; (try simp at hz); omega)); have sxw27_w26 : w26.heap.size ≤ w27.heap.size := (by first | omega | (have hz := hb.size; (try simp at hz); omega)); have HBw27 : Hid (Below w.heap.size w w27) := (bl_trans (by repeat (first | with_reducible exact Below.refl _ _ | with_reducible exact Hid.out (by assumption) | with_reducible refine Below.setCell ?_ (by first | (simp; done) | omega | (simp <;> omega)) _ | with_reducible refine bl_al ?_ _ | with_reducible apply Below.drew)) hb); clear hb)
  try go_wp2_with fail
  refine hK.out _ _ ?_ (fun hHeldN => ?_)
  · (try dsimp only); (first | (simp [*, go_sem]; done) | (simp [*, go_sem, World.cell?_alloc_past]; done))
  clear hK K hHeld; have hHeld := hHeldN; clear hHeldN
  try simp only [Act.put, List.setIfInBounds_toArray, List.set_cons_zero, List.set_cons_succ]
  refine wpAnyH_take (i := 43) (oi := _) (v := ?_) (by simp only [List.getElem?_toArray, List.getElem?_cons_succ, List.getElem?_cons_zero]; rfl) (by kernel_rfl) (by kernel_rfl) (by kernel_rfl) (by exact fun _ _ _ h => h) (Or.inl ⟨by rfl, ?_⟩) (by assumption) ?_
  rotate_left 1
  · (intro w hSw; (try dsimp only at hSw); go_simp; try with_reducible rfl)
  try simp only [Act.put, List.setIfInBounds_toArray, List.set_cons_zero, List.set_cons_succ]
  refine wpAnyH_take (i := 44) (oi := _) (v := ?_) (by simp only [List.getElem?_toArray, List.getElem?_cons_succ, List.getElem?_cons_zero]; rfl) (by kernel_rfl) (by kernel_rfl) (by kernel_rfl) (by exact fun _ _ _ h => h) (Or.inl ⟨by rfl, ?_⟩) (by assumption) ?_
  rotate_left 1
  · (intro w hSw; (try dsimp only at hSw); go_simp; try with_reducible rfl)
  try simp only [Act.put, List.setIfInBounds_toArray, List.set_cons_zero, List.set_cons_succ]
  refine wpAnyH_take (i := 45) (oi := _) (v := ?_) (by simp only [List.getElem?_toArray, List.getElem?_cons_succ, List.getElem?_cons_zero]; rfl) (by kernel_rfl) (by kernel_rfl) (by kernel_rfl) (by exact fun _ _ _ h => h) (Or.inl ⟨by rfl, ?_⟩) (by assumption) ?_
  rotate_left 1
  · (intro w hSw; (try dsimp only at hSw); go_simp; try with_reducible rfl)
  try simp only [Act.put, List.setIfInBounds_toArray, List.set_cons_zero, List.set_cons_succ]
  refine wpAnyH_take (i := 46) (oi := _) (v := ?_) (by simp only [List.getElem?_toArray, List.getElem?_cons_succ, List.getElem?_cons_zero]; rfl) (by kernel_rfl) (by kernel_rfl) (by kernel_rfl) (by exact fun _ _ _ h => h) (Or.inl ⟨by rfl, ?_⟩) (by assumption) ?_
  rotate_left 1
  · (intro w hSw; (try dsimp only at hSw); go_simp; try with_reducible rfl)
  try simp only [Act.put, List.setIfInBounds_toArray, List.set_cons_zero, List.set_cons_succ]
  refine wpAnyH_ready (rs := [47]) (by kernel_rfl) (by simp) ?_
  refine AllReadyH.cons (o := _) (by simp only [List.getElem?_toArray, List.getElem?_cons_succ, List.getElem?_cons_zero]; rfl) (fun K hK => ?_) AllReadyH.nil
  go_simp
  (go_at_call 17; (with_reducible refine ((K21.out) _).mono ?_); rintro e w28 ⟨rfl, hb⟩; obtain ⟨hclw28, hfrw28⟩ := bcell hb; have zw28_a : w.heap.size < w28.heap.size := (by first | omega | (have hz := hb.size; (try simp at hz); omega)); have yw28_a : w.heap.size < w28.heap.size + 1 := (by omega); have yyw28_a : w.heap.size < w28.heap.size + 1 + 1 := (by omega); have zw28_m : w3.heap.size < w28.heap.size := (by first | omega | (have hz := hb.size; (try simp at hz); omega)); have yw28_m : w3.heap.size < w28.heap.size + 1 := (by omega); have yyw28_m : w3.heap.size < w28.heap.size + 1 + 1 := (by omega); have zw28_n : bX1n < w28.heap.size := (by first | omega | (have hz := hb.size; (try simp at hz); omega)); have yw28_n : bX1n < w28.heap.size + 1 := (by omega); have yyw28_n : bX1n < w28.heap.size + 1 + 1 := (by omega); have zw28_o : bX2o < w28.heap.size := (by first | omega | (have hz := hb.size; (try simp at hz); omega)); have yw28_o : bX2o < w28.heap.size + 1 := (by omega); have yyw28_o : bX2o < w28.heap.size + 1 + 1 := (by omega); have zw28_q : w9.heap.size < w28.heap.size := (by first | omega | (have hz := hb.size; (try simp at hz); omega)); have yw28_q : w9.heap.size < w28.heap.size + 1 := (by omega); have yyw28_q : w9.heap.size < w28.heap.size + 1 + 1 := (by omega); have zw28_r : bX3r < w28.heap.size := (by first | omega | (have hz := hb.size; (try simp at hz); omega)); have yw28_r : bX3r < w28.heap.size + 1 := (by omega); have yyw28_r : bX3r < w28.heap.size + 1 + 1 := (by omega); have zw28_s : bX4s < w28.heap.size := (by first | omega | (have hz := hb.size; (try simp at hz); omega)); have yw28_s : bX4s < w28.heap.size + 1 := (by omega); have yyw28_s : bX4s < w28.heap.size + 1 + 1 := (by omega); have zw28_t : w15.heap.size < w28.heap.size := (by first | omega | (have hz := hb.size; (try simp at hz); omega)); have yw28_t : w15.heap.size < w28.heap.size + 1 := (by omega); have yyw28_t : w15.heap.size < w28.heap.size + 1 + 1 := (by omega); have sxw28_0 : R5.heap.size ≤ w28.heap.size := (by first | omega | (have hz := hb.size; (try simp at hz); omega)); have sxw28_w16 : w16.heap.size ≤ w28.heap.size := (by first | omega | (have hz := hb.size; (try simp at hz); omega)); have sxw28_w17 : w17.heap.size ≤ w28.heap.size := (by first | omega | (have hz := hb.size; (try simp at hz); omega)); have sxw28_w18 : w18.heap.size ≤ w28.heap.size := (by first | omega | (have hz := hb.size; (try simp at hz); omega)); have sxw28_w19 : w19.heap.size ≤ w28.heap.size := (by first | omega | (have hz := hb.size; (try simp at hz); omega)); have sxw28_w20 : w20.heap.size ≤ w28.heap.size := (by first | omega | (have hz := hb.size; (try simp at hz); omega)); have sxw28_w21 : w21.heap.size ≤ w28.heap.size := (by first | omega | (have hz := hb.size; (try simp at hz); omega)); have sxw28_w22 : w22.heap.size ≤ w28.heap.size := (by first | omega | (have hz := hb.size; (try simp at hz); omega)); have sxw28_w23 : w23.heap.size ≤ w28.heap.size := (by first | omega | (have hz := hb.size; (try simp at hz); omega)); have sxw28_w24 : w24.heap.size ≤ w28.heap.size := (by first | omega | (have hz := hb.size; (try simp at hz); omega)); have sxw28_w25 : w25.heap.size ≤ w28.heap.size := (by first | omega | (have hz := hb.size; (try simp at hz); omega)); have sxw28_w26 : w26.heap.size ≤ w28.heap.size := (by first | omega | (have hz := hb.size; (try simp at hz); omega)); have sxw28_w27 : w27.heap.size ≤ w28.heap.size := (by first | omega | (have hz := hb.size; (try simp at hz); omega)); have HBw28 : Hid (Below w.heap.size w w28) := (bl_trans (by repeat (first | with_reducible exact Below.refl _ _ | with_reducible exact Hid.out (by assumption) | with_reducible refine Below.setCell ?_ (by first | (simp; done) | omega | (simp <;> omega)) _ | with_reducible refine bl_al ?_ _ | with_reducible apply Below.drew)) hb); clear hb)
  try go_wp2_with fail
  refine hK.out _ _ ?_ (fun hHeldN => ?_)
  · (try dsimp only); (first | (simp [*, go_sem]; done) | (simp [*, go_sem, World.cell?_alloc_past]; done))
  clear hK K hHeld; have hHeld := hHeldN; clear hHeldN
  try simp only [Act.put, List.setIfInBounds_toArray, List.set_cons_zero, List.set_cons_succ]
  refine wpAnyH_take (i := 48) (oi := _) (v := ?_) (by simp only [List.getElem?_toArray, List.getElem?_cons_succ, List.getElem?_cons_zero]; rfl) (by kernel_rfl) (by kernel_rfl) (by kernel_rfl) (by exact fun _ _ _ h => h) (Or.inl ⟨by rfl, ?_⟩) (by assumption) ?_
  rotate_left 1
  · (intro w hSw; (try dsimp only at hSw); go_simp; try with_reducible rfl)
  try simp only [Act.put, List.setIfInBounds_toArray, List.set_cons_zero, List.set_cons_succ]
  refine wpAnyH_take (i := 49) (oi := _) (v := ?_) (by simp only [List.getElem?_toArray, List.getElem?_cons_succ, List.getElem?_cons_zero]; rfl) (by kernel_rfl) (by kernel_rfl) (by kernel_rfl) (by exact fun _ _ _ h => h) (Or.inl ⟨by rfl, ?_⟩) (by assumption) ?_
  rotate_left 1
  · (intro w hSw; (try dsimp only at hSw); go_simp; try with_reducible rfl)
  try simp only [Act.put, List.setIfInBounds_toArray, List.set_cons_zero, List.set_cons_succ]
  refine wpAnyH_done (by kernel_rfl) ?_ _
  clear hHeld
  go_wp2_with fail
  go_returns
  exact ⟨rfl, by repeat (first | with_reducible exact Below.refl _ _ | with_reducible exact Hid.out (by assumption) | with_reducible refine Below.setCell ?_ (by first | (simp; done) | omega | (simp <;> omega)) _ | with_reducible refine bl_al ?_ _ | with_reducible apply Below.drew)⟩
theorem ov_neg (x : Int) : ov (-x) = -ov x := by unfold ov; split <;> split <;> omega
theorem oe_neg (x : Int) : oe (-x) = oe x := by unfold oe; split <;> split <;> omega
theorem sg_not (s : Bool) (n : Int) : sg (!s) n = -sg s n := by cases s <;> simp [sg]
theorem sign_neg {x : Int} (h : x ≠ 0) : decide (-x < 0) = !decide (x < 0) := by
  rw [Bool.eq_iff_iff]; simp only [decide_eq_true_eq, Bool.not_eq_true', decide_eq_false_iff_not]; omega
theorem mulr_neg1 (x y : Int) : mulr (-x) y = -mulr x y := by
  by_cases h : x = 0
  · subst h; unfold mulr sg; simp
  · unfold mulr; rw [Int.natAbs_neg, sign_neg h, ← sg_not]
    congr 1
    cases decide (x < 0) <;> cases decide (y < 0) <;> rfl
theorem mulr_neg2 (x y : Int) : mulr x (-y) = -mulr x y := by
  by_cases h : y = 0
  · subst h; unfold mulr sg; simp
  · unfold mulr; rw [Int.natAbs_neg, sign_neg h, ← sg_not]
    congr 1
    cases decide (x < 0) <;> cases decide (y < 0) <;> rfl
theorem divr_neg2 (x y : Int) (h : y ≠ 0) : divr x (-y) = -divr x y := by
  unfold divr; rw [Int.natAbs_neg, sign_neg h, ← sg_not]
  congr 1
  cases decide (x < 0) <;> cases decide (y < 0) <;> rfl
theorem halfr_neg (x : Int) : halfr (-x) = -halfr x := by
  by_cases h : x = 0
  · subst h; decide
  · unfold halfr; rw [Int.natAbs_neg, sign_neg h, ← sg_not]
theorem rndr_neg (x : Int) : IntKind.i64.wrap (-rndr x) = rndr (-x) := by
  have h1 : rndr (-x) = -rndr x := by
    by_cases h : x = 0
    · subst h; decide
    · unfold rndr; rw [Int.natAbs_neg, sign_neg h, ← sg_not]
  rw [h1]
  refine IntWalk.i64_in _ ?_
  unfold rndr sg; split <;> constructor <;> omega
theorem fixSigns_walk (x y : Int) (hx : Fx x) (hy : Fx y) (w : World) :
    Calls Try.prog 5 #[.agg #[.int .i64 (fh x), .int .u64 (fl x)], .agg #[.int .i64 (fh y), .int .u64 (fl y)]] w fun e w' => e = .returned (.bool true) ∧ Below w.heap.size w w' := by
  by_cases mx : My x
  · by_cases my : My y
    · have mx' : My (-x) := by obtain ⟨_, _⟩ := mx; constructor <;> omega
      have my' : My (-y) := by obtain ⟨_, _⟩ := my; constructor <;> omega
      have C5 := fmul_any (-x) y mx' my
      rw [mulr_neg1, ov_neg, oe_neg] at C5
      have C7 := fmul_any (-x) (-y) mx' my'
      rw [mulr_neg1, mulr_neg2, Int.neg_neg] at C7
      have C10 := fadd_any (-x) (-y) mx' my'
      rw [show -x + -y = -(x + y) by omega, ov_neg, oe_neg] at C10
      have C15 := neg_any (-x) mx'
      rw [Int.neg_neg] at C15
      have C16 := fhalf_any (-x) mx'
      rw [halfr_neg] at C16
      have C12 := neg_any _ (ov_My (mulr x y))
      have C14 := neg_any _ (ov_My (x + y))
      have C18 := neg_any _ (half_My mx)
      by_cases h0 : y = 0
      · subst h0
        have C13 := neg_any 0 ⟨by decide, by decide⟩
        have C6 := neg_any 0 my
        have C8 := fdiv_none x mx
        have C9 := fdiv_none x mx
        rw [Int.neg_zero] at C13 C6 C7 C10
        rw [fh_zero, fl_zero] at C13
        rw [← fh_zero, ← fl_zero] at C8 C9 C13
        exact fixSigns_core _ _ _ _ _ _ _ _ _ _ _ _ _ _ _ _ _ _ _ _ _ _ _ _ _ _ _ _ _ (rndr_neg x) w (rmay_true mx) (rmay_true my) (fmul_any x 0 mx my) (neg_any x mx) C5 C6 C7 C8 C9 C10 (fadd_any x 0 mx my) C12 C13 C14 C15 C16 (fhalf_any x mx) C18 (fround_any _ mx') (fround_any x mx) fawake_true
      · have C9 := fdiv_any x (-y) mx my' (by omega)
        rw [divr_neg2 x y h0, ov_neg, oe_neg] at C9
        exact fixSigns_core _ _ _ _ _ _ _ _ _ _ _ _ _ _ _ _ _ _ _ _ _ _ _ _ _ _ _ _ _ (rndr_neg x) w (rmay_true mx) (rmay_true my) (fmul_any x y mx my) (neg_any x mx) C5 (neg_any y my) C7 (fdiv_any x y mx my h0) C9 C10 (fadd_any x y mx my) C12 (neg_any _ (ov_My (divr x y))) C14 C15 C16 (fhalf_any x mx) C18 (fround_any _ mx') (fround_any x mx) fawake_true
    · exact fixSigns_out1 _ _ _ _ w (rmay_true mx) (rmay_false hy my) fawake_true
  · exact fixSigns_out0 _ _ _ _ w (rmay_false hx mx) fawake_true

set_option maxRecDepth 100000 in
theorem fixSigns_lifted (os : Os) (started : os.Started) (H : Type) (enc : TypeId × Value → H) :
    ReturnsInHanded {} Try.checked os 5 .any (Rows.fixSignsSpec.pre6 enc Try.prog Try.f5 Rows.fixSignsRow.domain false) (Rows.fixSignsSpec.post enc Try.prog Try.f5 false true false false) := by
  refine returnsInHanded_of_change (C := Try.checked) Try.own started (by kernel_rfl) Try.func5
    (ChangeSpec.witness6 (enc := enc) (C := Try.checked) false ⟨#[], #[.agg #[.int .i64 0, .int .u64 0], .agg #[.int .i64 0, .int .u64 0]], []⟩ 8 (by kernel_rfl) (by kernel_rfl) (by kernel_rfl) (by kernel_rfl)) ?_
  intro W base args ds gs before hval0 hW hcnd _
  have hval : ∀ (j : Nat) t v, Try.f5.params[j]? = some t → args[j]? = some v → Value.okWide Try.prog W .any base t v := hval0
  have hW' := hW
  obtain ⟨p, q, hA0, hV, rfl, hfz, hnd⟩ := hW
  have hA : DataW.TrodAll enc Try.prog W 0 (fun _ => true) true Try.f5.params.toList args.toList ds p := hA0
  rw [Try.params5] at hA hval
  obtain ⟨v0, v1, d0, d1, p0, p1, rfl, rfl, rfl, h0, h1⟩ := trodAll_two hA
  obtain ⟨rfl, rfl⟩ := trodVars_none hV
  obtain ⟨x, rfl, rfl, rfl, k00⟩ := open_fix (hval 0 24 v0 rfl rfl) h0
  obtain ⟨y, rfl, rfl, rfl, k10⟩ := open_fix (hval 1 24 v1 rfl rfl) h1
  clear hA0 hval0
  simp only [List.append_nil] at hW'
  refine (fixSigns_walk x y k00 k10 W).mono fun e W' ⟨he, hb⟩ => ?_
  subst he
  exact ⟨_, rfl, _, _, _, [], [], [], hW', trodAll_mk1 (shut_bool Try.underlying4 _), trodAll_mk2 (shut_fix k00) (shut_fix k10), rfl, hb.frame _, fun h => by cases h⟩

theorem fixSigns_holds : Rows.FixSignsSaid :=
  OpenClaim.holds_of_wide 5 Try.f5 rfl rfl rfl rfl rfl rfl rfl ⟨rfl, rfl, rfl, rfl, rfl⟩ rfl rfl rfl rfl rfl (by kernel_rfl) Try.func5 (by kernel_rfl)
    (of_decide_eq_true (by kernel_rfl)) (by unfold Func.isWrapper; first | (rw [if_pos (by decide +kernel)]; kernel_rfl) | (rw [if_neg (by decide +kernel)]; exact ⟨rfl, rfl⟩))
    (fun os started H enc _ => fixSigns_lifted os started H enc)
end Go.Proofs.Ytjiipbmnagpejaa
