/- The examples that every statement of the layer looks at. -/
import Derived.Test.YtgcblfaommhpbaaFixOpen
import Derived.Test.YtgcblfaommhpbaaFixAny3
namespace Go.Proofs.Ytgcblfaommhpbaa
open Go.RowKit

set_option maxRecDepth 20000 in
set_option maxHeartbeats 4000000 in
theorem fawake_core (o1 o0 t1 t0 g1 g0 m1 m0 : Int) (q1 : ∀ W, (Go.binOp .eql 44 (.agg #[.int .i64 g1, .int .u64 g0]) (.agg #[.int .i64 0, .int .u64 6148914691236517205])).run Try.prog W = .ok (.bool true) W) (q2 : ∀ W, (Go.binOp .eql 44 (.agg #[.int .i64 m1, .int .u64 m0]) (.agg #[.int .i64 (-2), .int .u64 0])).run Try.prog W = .ok (.bool true) W) (w : World)
    (C1 : ∀ W, Calls Try.prog 44 #[.int .i64 1] W fun e w' => e = .returned (.agg #[.int .i64 o1, .int .u64 o0]) ∧ Below W.heap.size W w')
    (C2 : ∀ W, Calls Try.prog 44 #[.int .i64 3] W fun e w' => e = .returned (.agg #[.int .i64 t1, .int .u64 t0]) ∧ Below W.heap.size W w')
    (C3 : ∀ W, Calls Try.prog 38 #[.agg #[.int .i64 o1, .int .u64 o0], .agg #[.int .i64 t1, .int .u64 t0]] W fun e w' => e = .returned (.tuple #[.agg #[.int .i64 g1, .int .u64 g0], .int .i64 0]) ∧ Below W.heap.size W w')
    (C4 : ∀ W, Calls Try.prog 56 #[.int .i64 0] W fun e w' => e = .returned (.int .i64 0) ∧ Below W.heap.size W w')
    (C5 : ∀ W, Calls Try.prog 44 #[.int .i64 (-2)] W fun e w' => e = .returned (.agg #[.int .i64 m1, .int .u64 m0]) ∧ Below W.heap.size W w')
    (C6 : ∀ W, Calls Try.prog 30 #[.agg #[.int .i64 (-9223372036854775808), .int .u64 0]] W fun e w' => e = .returned (.bool false) ∧ Below W.heap.size W w') :
    Calls Try.prog 34 #[] w fun e w' => e = .returned (.bool true) ∧ Below w.heap.size w w' := by
  have K1 := Lib.hid C1; have K2 := Lib.hid C2; have K3 := Lib.hid C3; have K4 := Lib.hid C4; have K5 := Lib.hid C5; have K6 := Lib.hid C6
  clear C1 C2 C3 C4 C5 C6
  go_enter Try.func34, Try.ntmps34
  go_wp2_with fail
  (with_reducible refine (K1.out _).mono ?_); rintro e w1 ⟨rfl, hb⟩; obtain ⟨hclw1, hfrw1⟩ := bcell hb; (try have sw1_0 : w.heap.size < w1.heap.size := (by first | omega | (have hz := hb.size; (try simp at hz); omega))); (try have syw1_0 : w.heap.size < w1.heap.size + 1 := (by omega)); (try have stw1_0 : w.heap.size + 1 < w1.heap.size := (by first | omega | (have hz := hb.size; (try simp at hz); omega))); have sxw1_0 : w.heap.size ≤ w1.heap.size := (by first | omega | (have hz := hb.size; (try simp at hz); omega)); have HBw1 : Hid (Below w.heap.size w w1) := (bl_trans (by repeat (first | with_reducible exact Below.refl _ _ | with_reducible exact Hid.out (by assumption) | with_reducible refine Below.setCell ?_ (by first | (simp; done) | omega | (simp <;> omega)) _ | with_reducible refine bl_al ?_ _ | with_reducible apply Below.drew)) hb); clear hb
  go_wp2_with fail
  (with_reducible refine (K2.out _).mono ?_); rintro e w2 ⟨rfl, hb⟩; obtain ⟨hclw2, hfrw2⟩ := bcell hb; (try have sw2_0 : w1.heap.size < w2.heap.size := (by first | omega | (have hz := hb.size; (try simp at hz); omega))); (try have syw2_0 : w1.heap.size < w2.heap.size + 1 := (by omega)); (try have stw2_0 : w1.heap.size + 1 < w2.heap.size := (by first | omega | (have hz := hb.size; (try simp at hz); omega))); have sxw2_0 : w1.heap.size ≤ w2.heap.size := (by first | omega | (have hz := hb.size; (try simp at hz); omega)); have HBw2 : Hid (Below w.heap.size w w2) := (bl_trans (by repeat (first | with_reducible exact Below.refl _ _ | with_reducible exact Hid.out (by assumption) | with_reducible refine Below.setCell ?_ (by first | (simp; done) | omega | (simp <;> omega)) _ | with_reducible refine bl_al ?_ _ | with_reducible apply Below.drew)) hb); clear hb
  go_wp2_with fail
  (with_reducible refine (K3.out _).mono ?_); rintro e w3 ⟨rfl, hb⟩; obtain ⟨hclw3, hfrw3⟩ := bcell hb; (try have sw3_0 : w2.heap.size < w3.heap.size := (by first | omega | (have hz := hb.size; (try simp at hz); omega))); (try have syw3_0 : w2.heap.size < w3.heap.size + 1 := (by omega)); (try have stw3_0 : w2.heap.size + 1 < w3.heap.size := (by first | omega | (have hz := hb.size; (try simp at hz); omega))); have sxw3_0 : w2.heap.size ≤ w3.heap.size := (by first | omega | (have hz := hb.size; (try simp at hz); omega)); have HBw3 : Hid (Below w.heap.size w w3) := (bl_trans (by repeat (first | with_reducible exact Below.refl _ _ | with_reducible exact Hid.out (by assumption) | with_reducible refine Below.setCell ?_ (by first | (simp; done) | omega | (simp <;> omega)) _ | with_reducible refine bl_al ?_ _ | with_reducible apply Below.drew)) hb); clear hb
  go_wp2_with fail
  (with_reducible refine (K4.out _).mono ?_); rintro e w4 ⟨rfl, hb⟩; obtain ⟨hclw4, hfrw4⟩ := bcell hb; have zw4_a : w3.heap.size < w4.heap.size := (by first | omega | (have hz := hb.size; (try simp at hz); omega)); have yw4_a : w3.heap.size < w4.heap.size + 1 := (by omega); have yyw4_a : w3.heap.size < w4.heap.size + 1 + 1 := (by omega); (try have sw4_0 : w3.heap.size + 1 < w4.heap.size := (by first | omega | (have hz := hb.size; (try simp at hz); omega))); (try have syw4_0 : w3.heap.size + 1 < w4.heap.size + 1 := (by omega)); (try have stw4_0 : w3.heap.size + 1 + 1 < w4.heap.size := (by first | omega | (have hz := hb.size; (try simp at hz); omega))); have sxw4_0 : w3.heap.size + 1 ≤ w4.heap.size := (by first | omega | (have hz := hb.size; (try simp at hz); omega)); have HBw4 : Hid (Below w.heap.size w w4) := (bl_trans (by repeat (first | with_reducible exact Below.refl _ _ | with_reducible exact Hid.out (by assumption) | with_reducible refine Below.setCell ?_ (by first | (simp; done) | omega | (simp <;> omega)) _ | with_reducible refine bl_al ?_ _ | with_reducible apply Below.drew)) hb); clear hb
  go_wp2_with fail
  (with_reducible refine (K5.out _).mono ?_); rintro e w5 ⟨rfl, hb⟩; obtain ⟨hclw5, hfrw5⟩ := bcell hb; have zw5_a : w3.heap.size < w5.heap.size := (by first | omega | (have hz := hb.size; (try simp at hz); omega)); have yw5_a : w3.heap.size < w5.heap.size + 1 := (by omega); have yyw5_a : w3.heap.size < w5.heap.size + 1 + 1 := (by omega); (try have sw5_0 : w4.heap.size < w5.heap.size := (by first | omega | (have hz := hb.size; (try simp at hz); omega))); (try have syw5_0 : w4.heap.size < w5.heap.size + 1 := (by omega)); (try have stw5_0 : w4.heap.size + 1 < w5.heap.size := (by first | omega | (have hz := hb.size; (try simp at hz); omega))); have sxw5_0 : w4.heap.size ≤ w5.heap.size := (by first | omega | (have hz := hb.size; (try simp at hz); omega)); have HBw5 : Hid (Below w.heap.size w w5) := (bl_trans (by repeat (first | with_reducible exact Below.refl _ _ | with_reducible exact Hid.out (by assumption) | with_reducible refine Below.setCell ?_ (by first | (simp; done) | omega | (simp <;> omega)) _ | with_reducible refine bl_al ?_ _ | with_reducible apply Below.drew)) hb); clear hb
  go_wp2_with fail
  (with_reducible refine (K6.out _).mono ?_); rintro e w6 ⟨rfl, hb⟩; obtain ⟨hclw6, hfrw6⟩ := bcell hb; have zw6_a : w3.heap.size < w6.heap.size := (by first | omega | (have hz := hb.size; (try simp at hz); omega)); have yw6_a : w3.heap.size < w6.heap.size + 1 := (by omega); have yyw6_a : w3.heap.size < w6.heap.size + 1 + 1 := (by omega); (try have sw6_0 : w5.heap.size < w6.heap.size := (by first | omega | (have hz := hb.size; (try simp at hz); omega))); (try have syw6_0 : w5.heap.size < w6.heap.size + 1 := (by omega)); (try have stw6_0 : w5.heap.size + 1 < w6.heap.size := (by first | omega | (have hz := hb.size; (try simp at hz); omega))); have sxw6_0 : w5.heap.size ≤ w6.heap.size := (by first | omega | (have hz := hb.size; (try simp at hz); omega)); have HBw6 : Hid (Below w.heap.size w w6) := (bl_trans (by repeat (first | with_reducible exact Below.refl _ _ | with_reducible exact Hid.out (by assumption) | with_reducible refine Below.setCell ?_ (by first | (simp; done) | omega | (simp <;> omega)) _ | with_reducible refine bl_al ?_ _ | with_reducible apply Below.drew)) hb); clear hb
  go_wp2_with fail
  go_returns
  exact ⟨rfl, by repeat (first | with_reducible exact Below.refl _ _ | with_reducible exact Hid.out (by assumption) | with_reducible refine Below.setCell ?_ (by first | (simp; done) | omega | (simp <;> omega)) _ | with_reducible refine bl_al ?_ _ | with_reducible apply Below.drew)⟩
theorem fawake_true (w : World) : Calls Try.prog 34 #[] w fun e w' => e = .returned (.bool true) ∧ Below w.heap.size w w' := by
  have i1 : intr 1 = 18446744073709551616 := by decide
  have i3 : intr 3 = 55340232221128654848 := by decide
  have C3 := fdiv_any (intr 1) (intr 3) (by rw [i1]; exact ⟨by decide, by decide⟩) (by rw [i3]; exact ⟨by decide, by decide⟩) (by rw [i3]; decide)
  have d : divr (intr 1) (intr 3) = 6148914691236517205 := by rw [i1, i3]; decide
  have m : My 6148914691236517205 := ⟨by decide, by decide⟩
  rw [d, ov_in m, oe_in m] at C3
  have C6 := may_any (-170141183460469231731687303715884105728)
  rw [show fh (-170141183460469231731687303715884105728) = -9223372036854775808 by decide, show fl (-170141183460469231731687303715884105728) = 0 by decide, decide_eq_false (by decide)] at C6
  refine fawake_core _ _ _ _ _ _ _ _ ?_ ?_ w (int_any 1) (int_any 3) C3 (num_any 0) (int_any (-2)) C6
  · rw [show fh 6148914691236517205 = 0 by decide, show fl 6148914691236517205 = 6148914691236517205 by decide]; exact eq_fix_true _ _
  · rw [show fh (intr (-2)) = -2 by decide, show fl (intr (-2)) = 0 by decide]; exact eq_fix_true _ _
end Go.Proofs.Ytgcblfaommhpbaa
