/- LimbOrder: products of sums are sums of products, where there is room; the order of two makes no difference. For any three numbers of two words, without conditions. -/
import Derived.Test.YtgcblfaommhpbaaLimbOrderL
import Derived.Test.YtgcblfaommhpbaaAwake
import Derived.Test.YtgcblfaommhpbaaInv
import Derived.Test.YtgcblfaommhpbaaTakeOut
import Derived.Test.YtgcblfaommhpbaaMulAny
namespace Go.Proofs.Ytgcblfaommhpbaa
open Go.ChangeShapes Go.WideShapes Go.ChangeAt Go.RowKit Go.Joins

set_option maxRecDepth 20000 in
set_option maxHeartbeats 60000000 in
theorem limbOrder_over (a1 a0 b1 b0 c1 c0 s1 s0 p3 p2 p1 p0 : Int)  (w : World)
    (C1 : ∀ W, Calls Try.prog 29 #[.agg #[.int .u64 b1, .int .u64 b0], .agg #[.int .u64 c1, .int .u64 c0]] W fun e w' => e = .returned (.tuple #[.agg #[.int .u64 s1, .int .u64 s0], .bool true]) ∧ Below W.heap.size W w')
    (C2 : ∀ W, Calls Try.prog 16 #[.agg #[.int .u64 a1, .int .u64 a0], .agg #[.int .u64 b1, .int .u64 b0]] W fun e w' => e = .returned (.agg #[.int .u64 p3, .int .u64 p2, .int .u64 p1, .int .u64 p0]) ∧ Below W.heap.size W w')
    (C3 : ∀ W, Calls Try.prog 16 #[.agg #[.int .u64 b1, .int .u64 b0], .agg #[.int .u64 a1, .int .u64 a0]] W fun e w' => e = .returned (.agg #[.int .u64 p3, .int .u64 p2, .int .u64 p1, .int .u64 p0]) ∧ Below W.heap.size W w')
    (C4 : ∀ W, Calls Try.prog 18 #[] W fun e w' => e = .returned (.bool true) ∧ Below W.heap.size W w') :
    Calls Try.prog 5 #[.agg #[.int .u64 a1, .int .u64 a0], .agg #[.int .u64 b1, .int .u64 b0], .agg #[.int .u64 c1, .int .u64 c0]] w fun e w' => e = .returned (.bool true) ∧ Below w.heap.size w w' := by
  have K1 := Lib.hid C1; have K2 := Lib.hid C2; have K3 := Lib.hid C3; have K4 := Lib.hid C4
  clear C1 C2 C3 C4
  have q1 := ne_four_false p3 p2 p1 p0
  go_enter Try.func5, Try.ntmps5
  go_wp2_with fail
  (with_reducible refine (K1.out _).mono ?_); rintro e w1 ⟨rfl, hb⟩; obtain ⟨hclw1, hfrw1⟩ := bcell hb; have zw1_a : w.heap.size < w1.heap.size := (by first | omega | (have hz := hb.size; (try simp at hz); omega)); have yw1_a : w.heap.size < w1.heap.size + 1 := (by omega); have yyw1_a : w.heap.size < w1.heap.size + 1 + 1 := (by omega); have zw1_b : w.heap.size + 1 < w1.heap.size := (by first | omega | (have hz := hb.size; (try simp at hz); omega)); have yw1_b : w.heap.size + 1 < w1.heap.size + 1 := (by omega); have yyw1_b : w.heap.size + 1 < w1.heap.size + 1 + 1 := (by omega); have zw1_c : w.heap.size + 1 + 1 < w1.heap.size := (by first | omega | (have hz := hb.size; (try simp at hz); omega)); have yw1_c : w.heap.size + 1 + 1 < w1.heap.size + 1 := (by omega); have yyw1_c : w.heap.size + 1 + 1 < w1.heap.size + 1 + 1 := (by omega); have sxw1_0 : w.heap.size + 1 + 1 + 1 ≤ w1.heap.size := (by first | omega | (have hz := hb.size; (try simp at hz); omega)); have HBw1 : Hid (Below w.heap.size w w1) := (bl_trans (by repeat (first | with_reducible exact Below.refl _ _ | with_reducible exact Hid.out (by assumption) | with_reducible refine Below.setCell ?_ (by first | (simp; done) | omega | (simp <;> omega)) _ | with_reducible refine bl_al ?_ _ | with_reducible apply Below.drew)) hb); clear hb
  go_upto_region 2 with fail
  refine name_world (P := fun W => Code.wp _ _ _ _ W) _ (fun R1 hR1 => ?_)
  have zR1_a : w.heap.size < R1.heap.size := by rw [hR1]; first | omega | (simp <;> omega)
  have yR1_a : w.heap.size < R1.heap.size + 1 := by omega
  have yyR1_a : w.heap.size < R1.heap.size + 1 + 1 := by omega
  have cR1_a_0 : R1.cell? ⟨w.heap.size, 0, none⟩ = some (.int .u64 a1) := by rw [hR1]; first | assumption | (simp [go_sem, *]; done)
  have cR1_a_1 : R1.cell? ⟨w.heap.size, 1, none⟩ = some (.int .u64 a0) := by rw [hR1]; first | assumption | (simp [go_sem, *]; done)
  have zR1_b : w.heap.size + 1 < R1.heap.size := by rw [hR1]; first | omega | (simp <;> omega)
  have yR1_b : w.heap.size + 1 < R1.heap.size + 1 := by omega
  have yyR1_b : w.heap.size + 1 < R1.heap.size + 1 + 1 := by omega
  have cR1_b_0 : R1.cell? ⟨w.heap.size + 1, 0, none⟩ = some (.int .u64 b1) := by rw [hR1]; first | assumption | (simp [go_sem, *]; done)
  have cR1_b_1 : R1.cell? ⟨w.heap.size + 1, 1, none⟩ = some (.int .u64 b0) := by rw [hR1]; first | assumption | (simp [go_sem, *]; done)
  have zR1_c : w.heap.size + 1 + 1 < R1.heap.size := by rw [hR1]; first | omega | (simp <;> omega)
  have yR1_c : w.heap.size + 1 + 1 < R1.heap.size + 1 := by omega
  have yyR1_c : w.heap.size + 1 + 1 < R1.heap.size + 1 + 1 := by omega
  have cR1_c_0 : R1.cell? ⟨w.heap.size + 1 + 1, 0, none⟩ = some (.int .u64 c1) := by rw [hR1]; first | assumption | (simp [go_sem, *]; done)
  have cR1_c_1 : R1.cell? ⟨w.heap.size + 1 + 1, 1, none⟩ = some (.int .u64 c0) := by rw [hR1]; first | assumption | (simp [go_sem, *]; done)
  have zR1_s : w1.heap.size < R1.heap.size := by rw [hR1]; first | omega | (simp <;> omega)
  have yR1_s : w1.heap.size < R1.heap.size + 1 := by omega
  have yyR1_s : w1.heap.size < R1.heap.size + 1 + 1 := by omega
  have cR1_s_0 : R1.cell? ⟨w1.heap.size, 0, none⟩ = some (.int .u64 s1) := by rw [hR1]; first | assumption | (simp [go_sem, *]; done)
  have cR1_s_1 : R1.cell? ⟨w1.heap.size, 1, none⟩ = some (.int .u64 s0) := by rw [hR1]; first | assumption | (simp [go_sem, *]; done)
  have HBR1 : Hid (Below w.heap.size w R1) := by rw [hR1]; show Below _ _ _; exact (by repeat (first | with_reducible exact Below.refl _ _ | with_reducible exact Hid.out (by assumption) | with_reducible refine Below.setCell ?_ (by first | (simp; done) | omega | (simp <;> omega)) _ | with_reducible refine bl_al ?_ _ | with_reducible apply Below.drew))
  clear hR1
  clear zw1_a yw1_a yyw1_a zw1_b yw1_b yyw1_b zw1_c yw1_c yyw1_c sxw1_0 hclw1 hfrw1 HBw1
  go_region_held3 (fun w' => w'.cell? ⟨w.heap.size, 0, none⟩ = some (.int .u64 a1) ∧ w'.cell? ⟨w.heap.size, 1, none⟩ = some (.int .u64 a0) ∧ w'.cell? ⟨w.heap.size + 1, 0, none⟩ = some (.int .u64 b1) ∧ w'.cell? ⟨w.heap.size + 1, 1, none⟩ = some (.int .u64 b0)) (first | (simp [*, go_sem]; done) | (simp [*, go_sem, World.cell?_alloc_past]; done))
    (first
      | (go_at_call 16; (with_reducible refine (K2.out _).mono ?_); rintro e w2 ⟨rfl, hb⟩; (first | (with_reducible (obtain ⟨hclw2, hfrw2⟩ := bcell_drew hb)) | (obtain ⟨hclw2, hfrw2⟩ := bcell hb)); have zw2_a : w.heap.size < w2.heap.size := (by first | omega | (have hz := hb.size; (try simp at hz); omega)); have yw2_a : w.heap.size < w2.heap.size + 1 := (by omega); have yyw2_a : w.heap.size < w2.heap.size + 1 + 1 := (by omega); have zw2_b : w.heap.size + 1 < w2.heap.size := (by first | omega | (have hz := hb.size; (try simp at hz); omega)); have yw2_b : w.heap.size + 1 < w2.heap.size + 1 := (by omega); have yyw2_b : w.heap.size + 1 < w2.heap.size + 1 + 1 := (by omega); have zw2_c : w.heap.size + 1 + 1 < w2.heap.size := (by first | omega | (have hz := hb.size; (try simp at hz); omega)); have yw2_c : w.heap.size + 1 + 1 < w2.heap.size + 1 := (by omega); have yyw2_c : w.heap.size + 1 + 1 < w2.heap.size + 1 + 1 := (by omega); have zw2_s : w1.heap.size < w2.heap.size := (by first | omega | (have hz := hb.size; (try simp at hz); omega)); have yw2_s : w1.heap.size < w2.heap.size + 1 := (by omega); have yyw2_s : w1.heap.size < w2.heap.size + 1 + 1 := (by omega); have sxw2_0 : R1.heap.size ≤ w2.heap.size := (by first | omega | (have hz := hb.size; (try simp at hz); omega)); have HBw2 : Hid (Below w.heap.size w w2) := (bl_trans (by repeat (first | with_reducible exact Below.refl _ _ | with_reducible exact Hid.out (by assumption) | with_reducible refine Below.setCell ?_ (by first | (simp; done) | omega | (simp <;> omega)) _ | with_reducible refine bl_al ?_ _ | with_reducible apply Below.drew)) hb); clear hb; clear K2)
      | (go_at_call 16; (with_reducible refine (K3.out _).mono ?_); rintro e w3 ⟨rfl, hb⟩; obtain ⟨hclw3, hfrw3⟩ := bcell hb; have zw3_a : w.heap.size < w3.heap.size := (by first | omega | (have hz := hb.size; (try simp at hz); omega)); have yw3_a : w.heap.size < w3.heap.size + 1 := (by omega); have yyw3_a : w.heap.size < w3.heap.size + 1 + 1 := (by omega); have zw3_b : w.heap.size + 1 < w3.heap.size := (by first | omega | (have hz := hb.size; (try simp at hz); omega)); have yw3_b : w.heap.size + 1 < w3.heap.size + 1 := (by omega); have yyw3_b : w.heap.size + 1 < w3.heap.size + 1 + 1 := (by omega); have zw3_c : w.heap.size + 1 + 1 < w3.heap.size := (by first | omega | (have hz := hb.size; (try simp at hz); omega)); have yw3_c : w.heap.size + 1 + 1 < w3.heap.size + 1 := (by omega); have yyw3_c : w.heap.size + 1 + 1 < w3.heap.size + 1 + 1 := (by omega); have zw3_s : w1.heap.size < w3.heap.size := (by first | omega | (have hz := hb.size; (try simp at hz); omega)); have yw3_s : w1.heap.size < w3.heap.size + 1 := (by omega); have yyw3_s : w1.heap.size < w3.heap.size + 1 + 1 := (by omega); have sxw3_0 : R1.heap.size ≤ w3.heap.size := (by first | omega | (have hz := hb.size; (try simp at hz); omega)); have sxw3_w2 : w2.heap.size ≤ w3.heap.size := (by first | omega | (have hz := hb.size; (try simp at hz); omega)); have HBw3 : Hid (Below w.heap.size w w3) := (bl_trans (by repeat (first | with_reducible exact Below.refl _ _ | with_reducible exact Hid.out (by assumption) | with_reducible refine Below.setCell ?_ (by first | (simp; done) | omega | (simp <;> omega)) _ | with_reducible refine bl_al ?_ _ | with_reducible apply Below.drew)) hb); clear hb; clear K3))
  rename_i hHeld
  clear hHeld
  go_wp2_with fail
  (with_reducible refine (K4.out _).mono ?_); rintro e w4 ⟨rfl, hb⟩; obtain ⟨hclw4, hfrw4⟩ := bcell hb; have zw4_a : w.heap.size < w4.heap.size := (by first | omega | (have hz := hb.size; (try simp at hz); omega)); have yw4_a : w.heap.size < w4.heap.size + 1 := (by omega); have yyw4_a : w.heap.size < w4.heap.size + 1 + 1 := (by omega); have zw4_b : w.heap.size + 1 < w4.heap.size := (by first | omega | (have hz := hb.size; (try simp at hz); omega)); have yw4_b : w.heap.size + 1 < w4.heap.size + 1 := (by omega); have yyw4_b : w.heap.size + 1 < w4.heap.size + 1 + 1 := (by omega); have zw4_c : w.heap.size + 1 + 1 < w4.heap.size := (by first | omega | (have hz := hb.size; (try simp at hz); omega)); have yw4_c : w.heap.size + 1 + 1 < w4.heap.size + 1 := (by omega); have yyw4_c : w.heap.size + 1 + 1 < w4.heap.size + 1 + 1 := (by omega); have zw4_s : w1.heap.size < w4.heap.size := (by first | omega | (have hz := hb.size; (try simp at hz); omega)); have yw4_s : w1.heap.size < w4.heap.size + 1 := (by omega); have yyw4_s : w1.heap.size < w4.heap.size + 1 + 1 := (by omega); have sxw4_0 : w3.heap.size ≤ w4.heap.size := (by first | omega | (have hz := hb.size; (try simp at hz); omega)); have HBw4 : Hid (Below w.heap.size w w4) := (bl_trans (by repeat (first | with_reducible exact Below.refl _ _ | with_reducible exact Hid.out (by assumption) | with_reducible refine Below.setCell ?_ (by first | (simp; done) | omega | (simp <;> omega)) _ | with_reducible refine bl_al ?_ _ | with_reducible apply Below.drew)) hb); clear hb
  go_wp2_with fail
  go_returns
  exact ⟨rfl, by repeat (first | with_reducible exact Below.refl _ _ | with_reducible exact Hid.out (by assumption) | with_reducible refine Below.setCell ?_ (by first | (simp; done) | omega | (simp <;> omega)) _ | with_reducible refine bl_al ?_ _ | with_reducible apply Below.drew)⟩
set_option maxRecDepth 20000 in
set_option maxHeartbeats 60000000 in
theorem limbOrder_plain (a1 a0 b1 b0 c1 c0 s1 s0 p3 p2 p1 p0 q3 q2 q1 q0 r3 r2 r1 r0 u1 u0 : Int) (x y : Bool)  (w : World)
    (C1 : ∀ W, Calls Try.prog 29 #[.agg #[.int .u64 b1, .int .u64 b0], .agg #[.int .u64 c1, .int .u64 c0]] W fun e w' => e = .returned (.tuple #[.agg #[.int .u64 s1, .int .u64 s0], .bool false]) ∧ Below W.heap.size W w')
    (C2 : ∀ W, Calls Try.prog 16 #[.agg #[.int .u64 a1, .int .u64 a0], .agg #[.int .u64 b1, .int .u64 b0]] W fun e w' => e = .returned (.agg #[.int .u64 p3, .int .u64 p2, .int .u64 p1, .int .u64 p0]) ∧ Below W.heap.size W w')
    (C3 : ∀ W, Calls Try.prog 16 #[.agg #[.int .u64 b1, .int .u64 b0], .agg #[.int .u64 a1, .int .u64 a0]] W fun e w' => e = .returned (.agg #[.int .u64 p3, .int .u64 p2, .int .u64 p1, .int .u64 p0]) ∧ Below W.heap.size W w')
    (C4 : ∀ W, Calls Try.prog 16 #[.agg #[.int .u64 a1, .int .u64 a0], .agg #[.int .u64 c1, .int .u64 c0]] W fun e w' => e = .returned (.agg #[.int .u64 q3, .int .u64 q2, .int .u64 q1, .int .u64 q0]) ∧ Below W.heap.size W w')
    (C5 : ∀ W, Calls Try.prog 16 #[.agg #[.int .u64 a1, .int .u64 a0], .agg #[.int .u64 s1, .int .u64 s0]] W fun e w' => e = .returned (.agg #[.int .u64 r3, .int .u64 r2, .int .u64 r1, .int .u64 r0]) ∧ Below W.heap.size W w')
    (C6 : ∀ W, Calls Try.prog 29 #[.agg #[.int .u64 p1, .int .u64 p0], .agg #[.int .u64 q1, .int .u64 q0]] W fun e w' => e = .returned (.tuple #[.agg #[.int .u64 r1, .int .u64 r0], .bool false]) ∧ Below W.heap.size W w')
    (C7 : ∀ W, Calls Try.prog 29 #[.agg #[.int .u64 p3, .int .u64 p2], .agg #[.int .u64 q3, .int .u64 q2]] W fun e w' => e = .returned (.tuple #[.agg #[.int .u64 u1, .int .u64 u0], .bool x]) ∧ Below W.heap.size W w')
    (C8 : ∀ W, Calls Try.prog 29 #[.agg #[.int .u64 u1, .int .u64 u0], .agg #[.int .u64 0, .int .u64 0]] W fun e w' => e = .returned (.tuple #[.agg #[.int .u64 r3, .int .u64 r2], .bool y]) ∧ Below W.heap.size W w')
    (C9 : ∀ W, Calls Try.prog 18 #[] W fun e w' => e = .returned (.bool true) ∧ Below W.heap.size W w') :
    Calls Try.prog 5 #[.agg #[.int .u64 a1, .int .u64 a0], .agg #[.int .u64 b1, .int .u64 b0], .agg #[.int .u64 c1, .int .u64 c0]] w fun e w' => e = .returned (.bool true) ∧ Below w.heap.size w w' := by
  have K1 := Lib.hid C1; have K2 := Lib.hid C2; have K3 := Lib.hid C3; have K4 := Lib.hid C4; have K5 := Lib.hid C5; have K6 := Lib.hid C6; have K7 := Lib.hid C7; have K8 := Lib.hid C8; have K9 := Lib.hid C9
  clear C1 C2 C3 C4 C5 C6 C7 C8 C9
  have eqf1 := ne_four_false p3 p2 p1 p0; have eqf2 := eq_four_true r3 r2 r1 r0
  have K20 := K2
  go_enter Try.func5, Try.ntmps5
  go_wp2_with fail
  (with_reducible refine (K1.out _).mono ?_); rintro e w1 ⟨rfl, hb⟩; obtain ⟨hclw1, hfrw1⟩ := bcell hb; have zw1_a : w.heap.size < w1.heap.size := (by first | omega | (have hz := hb.size; (try simp at hz); omega)); have yw1_a : w.heap.size < w1.heap.size + 1 := (by omega); have yyw1_a : w.heap.size < w1.heap.size + 1 + 1 := (by omega); have zw1_b : w.heap.size + 1 < w1.heap.size := (by first | omega | (have hz := hb.size; (try simp at hz); omega)); have yw1_b : w.heap.size + 1 < w1.heap.size + 1 := (by omega); have yyw1_b : w.heap.size + 1 < w1.heap.size + 1 + 1 := (by omega); have zw1_c : w.heap.size + 1 + 1 < w1.heap.size := (by first | omega | (have hz := hb.size; (try simp at hz); omega)); have yw1_c : w.heap.size + 1 + 1 < w1.heap.size + 1 := (by omega); have yyw1_c : w.heap.size + 1 + 1 < w1.heap.size + 1 + 1 := (by omega); have sxw1_0 : w.heap.size + 1 + 1 + 1 ≤ w1.heap.size := (by first | omega | (have hz := hb.size; (try simp at hz); omega)); have HBw1 : Hid (Below w.heap.size w w1) := (bl_trans (by repeat (first | with_reducible exact Below.refl _ _ | with_reducible exact Hid.out (by assumption) | with_reducible refine Below.setCell ?_ (by first | (simp; done) | omega | (simp <;> omega)) _ | with_reducible refine bl_al ?_ _ | with_reducible apply Below.drew)) hb); clear hb
  go_upto_region 2 with fail
  refine name_world (P := fun W => Code.wp _ _ _ _ W) _ (fun R1 hR1 => ?_)
  have zR1_a : w.heap.size < R1.heap.size := by rw [hR1]; first | omega | (simp <;> omega)
  have yR1_a : w.heap.size < R1.heap.size + 1 := by omega
  have yyR1_a : w.heap.size < R1.heap.size + 1 + 1 := by omega
  have cR1_a_0 : R1.cell? ⟨w.heap.size, 0, none⟩ = some (.int .u64 a1) := by rw [hR1]; first | assumption | (simp [go_sem, *]; done)
  have cR1_a_1 : R1.cell? ⟨w.heap.size, 1, none⟩ = some (.int .u64 a0) := by rw [hR1]; first | assumption | (simp [go_sem, *]; done)
  have zR1_b : w.heap.size + 1 < R1.heap.size := by rw [hR1]; first | omega | (simp <;> omega)
  have yR1_b : w.heap.size + 1 < R1.heap.size + 1 := by omega
  have yyR1_b : w.heap.size + 1 < R1.heap.size + 1 + 1 := by omega
  have cR1_b_0 : R1.cell? ⟨w.heap.size + 1, 0, none⟩ = some (.int .u64 b1) := by rw [hR1]; first | assumption | (simp [go_sem, *]; done)
  have cR1_b_1 : R1.cell? ⟨w.heap.size + 1, 1, none⟩ = some (.int .u64 b0) := by rw [hR1]; first | assumption | (simp [go_sem, *]; done)
  have zR1_c : w.heap.size + 1 + 1 < R1.heap.size := by rw [hR1]; first | omega | (simp <;> omega)
  have yR1_c : w.heap.size + 1 + 1 < R1.heap.size + 1 := by omega
  have yyR1_c : w.heap.size + 1 + 1 < R1.heap.size + 1 + 1 := by omega
  have cR1_c_0 : R1.cell? ⟨w.heap.size + 1 + 1, 0, none⟩ = some (.int .u64 c1) := by rw [hR1]; first | assumption | (simp [go_sem, *]; done)
  have cR1_c_1 : R1.cell? ⟨w.heap.size + 1 + 1, 1, none⟩ = some (.int .u64 c0) := by rw [hR1]; first | assumption | (simp [go_sem, *]; done)
  have zR1_s : w1.heap.size < R1.heap.size := by rw [hR1]; first | omega | (simp <;> omega)
  have yR1_s : w1.heap.size < R1.heap.size + 1 := by omega
  have yyR1_s : w1.heap.size < R1.heap.size + 1 + 1 := by omega
  have cR1_s_0 : R1.cell? ⟨w1.heap.size, 0, none⟩ = some (.int .u64 s1) := by rw [hR1]; first | assumption | (simp [go_sem, *]; done)
  have cR1_s_1 : R1.cell? ⟨w1.heap.size, 1, none⟩ = some (.int .u64 s0) := by rw [hR1]; first | assumption | (simp [go_sem, *]; done)
  have HBR1 : Hid (Below w.heap.size w R1) := by rw [hR1]; show Below _ _ _; exact (by repeat (first | with_reducible exact Below.refl _ _ | with_reducible exact Hid.out (by assumption) | with_reducible refine Below.setCell ?_ (by first | (simp; done) | omega | (simp <;> omega)) _ | with_reducible refine bl_al ?_ _ | with_reducible apply Below.drew))
  clear hR1
  clear zw1_a yw1_a yyw1_a zw1_b yw1_b yyw1_b zw1_c yw1_c yyw1_c sxw1_0 hclw1 hfrw1 HBw1
  go_region_held3 (fun w' => w'.cell? ⟨w.heap.size, 0, none⟩ = some (.int .u64 a1) ∧ w'.cell? ⟨w.heap.size, 1, none⟩ = some (.int .u64 a0) ∧ w'.cell? ⟨w.heap.size + 1, 0, none⟩ = some (.int .u64 b1) ∧ w'.cell? ⟨w.heap.size + 1, 1, none⟩ = some (.int .u64 b0)) (first | (simp [*, go_sem]; done) | (simp [*, go_sem, World.cell?_alloc_past]; done))
    (first
      | (go_at_call 16; (with_reducible refine (K2.out _).mono ?_); rintro e w2 ⟨rfl, hb⟩; (first | (with_reducible (obtain ⟨hclw2, hfrw2⟩ := bcell_drew hb)) | (obtain ⟨hclw2, hfrw2⟩ := bcell hb)); have zw2_a : w.heap.size < w2.heap.size := (by first | omega | (have hz := hb.size; (try simp at hz); omega)); have yw2_a : w.heap.size < w2.heap.size + 1 := (by omega); have yyw2_a : w.heap.size < w2.heap.size + 1 + 1 := (by omega); have zw2_b : w.heap.size + 1 < w2.heap.size := (by first | omega | (have hz := hb.size; (try simp at hz); omega)); have yw2_b : w.heap.size + 1 < w2.heap.size + 1 := (by omega); have yyw2_b : w.heap.size + 1 < w2.heap.size + 1 + 1 := (by omega); have zw2_c : w.heap.size + 1 + 1 < w2.heap.size := (by first | omega | (have hz := hb.size; (try simp at hz); omega)); have yw2_c : w.heap.size + 1 + 1 < w2.heap.size + 1 := (by omega); have yyw2_c : w.heap.size + 1 + 1 < w2.heap.size + 1 + 1 := (by omega); have zw2_s : w1.heap.size < w2.heap.size := (by first | omega | (have hz := hb.size; (try simp at hz); omega)); have yw2_s : w1.heap.size < w2.heap.size + 1 := (by omega); have yyw2_s : w1.heap.size < w2.heap.size + 1 + 1 := (by omega); have sxw2_0 : R1.heap.size ≤ w2.heap.size := (by first | omega | (have hz := hb.size; (try simp at hz); omega)); have HBw2 : Hid (Below w.heap.size w w2) := (bl_trans (by repeat (first | with_reducible exact Below.refl _ _ | with_reducible exact Hid.out (by assumption) | with_reducible refine Below.setCell ?_ (by first | (simp; done) | omega | (simp <;> omega)) _ | with_reducible refine bl_al ?_ _ | with_reducible apply Below.drew)) hb); clear hb; clear K2)
      | (go_at_call 16; (with_reducible refine (K3.out _).mono ?_); rintro e w3 ⟨rfl, hb⟩; obtain ⟨hclw3, hfrw3⟩ := bcell hb; have zw3_a : w.heap.size < w3.heap.size := (by first | omega | (have hz := hb.size; (try simp at hz); omega)); have yw3_a : w.heap.size < w3.heap.size + 1 := (by omega); have yyw3_a : w.heap.size < w3.heap.size + 1 + 1 := (by omega); have zw3_b : w.heap.size + 1 < w3.heap.size := (by first | omega | (have hz := hb.size; (try simp at hz); omega)); have yw3_b : w.heap.size + 1 < w3.heap.size + 1 := (by omega); have yyw3_b : w.heap.size + 1 < w3.heap.size + 1 + 1 := (by omega); have zw3_c : w.heap.size + 1 + 1 < w3.heap.size := (by first | omega | (have hz := hb.size; (try simp at hz); omega)); have yw3_c : w.heap.size + 1 + 1 < w3.heap.size + 1 := (by omega); have yyw3_c : w.heap.size + 1 + 1 < w3.heap.size + 1 + 1 := (by omega); have zw3_s : w1.heap.size < w3.heap.size := (by first | omega | (have hz := hb.size; (try simp at hz); omega)); have yw3_s : w1.heap.size < w3.heap.size + 1 := (by omega); have yyw3_s : w1.heap.size < w3.heap.size + 1 + 1 := (by omega); have sxw3_0 : R1.heap.size ≤ w3.heap.size := (by first | omega | (have hz := hb.size; (try simp at hz); omega)); have sxw3_w2 : w2.heap.size ≤ w3.heap.size := (by first | omega | (have hz := hb.size; (try simp at hz); omega)); have HBw3 : Hid (Below w.heap.size w w3) := (bl_trans (by repeat (first | with_reducible exact Below.refl _ _ | with_reducible exact Hid.out (by assumption) | with_reducible refine Below.setCell ?_ (by first | (simp; done) | omega | (simp <;> omega)) _ | with_reducible refine bl_al ?_ _ | with_reducible apply Below.drew)) hb); clear hb; clear K3))
  rename_i hHeld
  clear hHeld
  go_upto_region 6 with fail
  refine name_world (P := fun W => Code.wp _ _ _ _ W) _ (fun R2 hR2 => ?_)
  have zR2_a : w.heap.size < R2.heap.size := by rw [hR2]; first | omega | (simp <;> omega)
  have yR2_a : w.heap.size < R2.heap.size + 1 := by omega
  have yyR2_a : w.heap.size < R2.heap.size + 1 + 1 := by omega
  have cR2_a_0 : R2.cell? ⟨w.heap.size, 0, none⟩ = some (.int .u64 a1) := by rw [hR2]; first | assumption | (simp [go_sem, *]; done)
  have cR2_a_1 : R2.cell? ⟨w.heap.size, 1, none⟩ = some (.int .u64 a0) := by rw [hR2]; first | assumption | (simp [go_sem, *]; done)
  have zR2_b : w.heap.size + 1 < R2.heap.size := by rw [hR2]; first | omega | (simp <;> omega)
  have yR2_b : w.heap.size + 1 < R2.heap.size + 1 := by omega
  have yyR2_b : w.heap.size + 1 < R2.heap.size + 1 + 1 := by omega
  have cR2_b_0 : R2.cell? ⟨w.heap.size + 1, 0, none⟩ = some (.int .u64 b1) := by rw [hR2]; first | assumption | (simp [go_sem, *]; done)
  have cR2_b_1 : R2.cell? ⟨w.heap.size + 1, 1, none⟩ = some (.int .u64 b0) := by rw [hR2]; first | assumption | (simp [go_sem, *]; done)
  have zR2_c : w.heap.size + 1 + 1 < R2.heap.size := by rw [hR2]; first | omega | (simp <;> omega)
  have yR2_c : w.heap.size + 1 + 1 < R2.heap.size + 1 := by omega
  have yyR2_c : w.heap.size + 1 + 1 < R2.heap.size + 1 + 1 := by omega
  have cR2_c_0 : R2.cell? ⟨w.heap.size + 1 + 1, 0, none⟩ = some (.int .u64 c1) := by rw [hR2]; first | assumption | (simp [go_sem, *]; done)
  have cR2_c_1 : R2.cell? ⟨w.heap.size + 1 + 1, 1, none⟩ = some (.int .u64 c0) := by rw [hR2]; first | assumption | (simp [go_sem, *]; done)
  have zR2_s : w1.heap.size < R2.heap.size := by rw [hR2]; first | omega | (simp <;> omega)
  have yR2_s : w1.heap.size < R2.heap.size + 1 := by omega
  have yyR2_s : w1.heap.size < R2.heap.size + 1 + 1 := by omega
  have cR2_s_0 : R2.cell? ⟨w1.heap.size, 0, none⟩ = some (.int .u64 s1) := by rw [hR2]; first | assumption | (simp [go_sem, *]; done)
  have cR2_s_1 : R2.cell? ⟨w1.heap.size, 1, none⟩ = some (.int .u64 s0) := by rw [hR2]; first | assumption | (simp [go_sem, *]; done)
  have HBR2 : Hid (Below w.heap.size w R2) := by rw [hR2]; show Below _ _ _; exact (by repeat (first | with_reducible exact Below.refl _ _ | with_reducible exact Hid.out (by assumption) | with_reducible refine Below.setCell ?_ (by first | (simp; done) | omega | (simp <;> omega)) _ | with_reducible refine bl_al ?_ _ | with_reducible apply Below.drew))
  clear hR2
  clear zR1_a yR1_a yyR1_a cR1_a_0 cR1_a_1 zR1_b yR1_b yyR1_b cR1_b_0 cR1_b_1 zR1_c yR1_c yyR1_c cR1_c_0 cR1_c_1 zR1_s yR1_s yyR1_s cR1_s_0 cR1_s_1 HBR1 zw2_a yw2_a yyw2_a zw2_b yw2_b yyw2_b zw2_c yw2_c yyw2_c zw2_s yw2_s yyw2_s sxw2_0 hclw2 hfrw2 HBw2 zw3_a yw3_a yyw3_a zw3_b yw3_b yyw3_b zw3_c yw3_c yyw3_c zw3_s yw3_s yyw3_s sxw3_0 sxw3_w2 hclw3 hfrw3 HBw3
  go_cut [9, 10, 11] (fun slot0 slot1 slot2 X1 => ∃ bX1p bX1q bX1r : Nat, slot0 = .pointer (some ⟨bX1p, 0, none⟩) ∧ slot1 = .pointer (some ⟨bX1q, 0, none⟩) ∧ slot2 = .pointer (some ⟨bX1r, 0, none⟩) ∧ R2.heap.size ≤ bX1p ∧ R2.heap.size ≤ bX1q ∧ R2.heap.size ≤ bX1r ∧ bX1q ≠ bX1p ∧ bX1r ≠ bX1p ∧ bX1r ≠ bX1q ∧ Below R2.heap.size R2 X1 ∧ Has (bX1p) [.int .u64 p3, .int .u64 p2, .int .u64 p1, .int .u64 p0] X1 ∧ Has (bX1q) [.int .u64 q3, .int .u64 q2, .int .u64 q1, .int .u64 q0] X1 ∧ Has (bX1r) [.int .u64 r3, .int .u64 r2, .int .u64 r1, .int .u64 r0] X1)
  case first =>
    clear HBR2
    refine wp_region_inv_at (fun aa l a' w' => ∃ (l0 l1 l2 l3 l4 l5 l6 l7 l8 l9 l10 l11 l12 l13 l14 : Bool) (t34 t35 t36 t37 t38 t39 t40 t41 t42 t9 t10 t11 : Value), l = #[l0, l1, l2, l3, l4, l5, l6, l7, l8, l9, l10, l11, l12, l13, l14] ∧ a' = ((((((((((((aa).put (some 34) t34).put (some 35) t35).put (some 36) t36).put (some 37) t37).put (some 38) t38).put (some 39) t39).put (some 40) t40).put (some 41) t41).put (some 42) t42).put (some 9) t9).put (some 10) t10).put (some 11) t11 ∧ (l0 = true → t34 = .agg #[.int .u64 a1, .int .u64 a0]) ∧ (l1 = true → t35 = .agg #[.int .u64 b1, .int .u64 b0]) ∧ (l2 = true → t36 = .agg #[.int .u64 p3, .int .u64 p2, .int .u64 p1, .int .u64 p0]) ∧ (l3 = true → t37 = .agg #[.int .u64 a1, .int .u64 a0]) ∧ (l4 = true → t38 = .agg #[.int .u64 c1, .int .u64 c0]) ∧ (l5 = true → t39 = .agg #[.int .u64 q3, .int .u64 q2, .int .u64 q1, .int .u64 q0]) ∧ (l6 = true → t40 = .agg #[.int .u64 a1, .int .u64 a0]) ∧ (l7 = true → t41 = .agg #[.int .u64 s1, .int .u64 s0]) ∧ (l8 = true → t42 = .agg #[.int .u64 r3, .int .u64 r2, .int .u64 r1, .int .u64 r0]) ∧ Dk l9 t9 l12 [.int .u64 p3, .int .u64 p2, .int .u64 p1, .int .u64 p0] [.int .u64 0, .int .u64 0, .int .u64 0, .int .u64 0] R2 w' ∧ Dk l10 t10 l13 [.int .u64 q3, .int .u64 q2, .int .u64 q1, .int .u64 q0] [.int .u64 0, .int .u64 0, .int .u64 0, .int .u64 0] R2 w' ∧ Dk l11 t11 l14 [.int .u64 r3, .int .u64 r2, .int .u64 r1, .int .u64 r0] [.int .u64 0, .int .u64 0, .int .u64 0, .int .u64 0] R2 w' ∧ Ap l10 l9 t10 t9 ∧ Ap l11 l9 t11 t9 ∧ Ap l11 l10 t11 t10 ∧ (l12 = true → l9 = true) ∧ (l13 = true → l10 = true) ∧ (l14 = true → l11 = true) ∧ Below R2.heap.size R2 w') (by kernel_rfl) ?_ ?_ ?_
    · refine ⟨false, false, false, false, false, false, false, false, false, false, false, false, false, false, false, undef, undef, undef, undef, undef, undef, undef, undef, undef, undef, undef, undef, rfl, by simp only [Act.put, List.setIfInBounds_toArray, List.set_cons_zero, List.set_cons_succ], (fun h => by cases h), (fun h => by cases h), (fun h => by cases h), (fun h => by cases h), (fun h => by cases h), (fun h => by cases h), (fun h => by cases h), (fun h => by cases h), (fun h => by cases h), (fun h => by cases h), (fun h => by cases h), (fun h => by cases h), (fun h => by cases h), (fun h => by cases h), (fun h => by cases h), (fun h => by cases h), (fun h => by cases h), (fun h => by cases h), (Below.refl _ _).drew⟩
    · rintro l a' w' i ⟨l0, l1, l2, l3, l4, l5, l6, l7, l8, l9, l10, l11, l12, l13, l14, t34, t35, t36, t37, t38, t39, t40, t41, t42, t9, t10, t11, rfl, rfl, cd0, cd1, cd2, cd3, cd4, cd5, cd6, cd7, cd8, d9, d10, d11, n10_9, n11_9, n11_10, f12, f13, f14, hbl⟩ hi
      have hoff := ready_off hi
      have HBL := Lib.hid hbl
      obtain ⟨hcl, hfr⟩ := bcell hbl
      have ca1 : w'.cell? ⟨w.heap.size, 0, none⟩ = some (.int .u64 a1) := by rw [hcl _ _ (by omega)]; assumption
      have ca0 : w'.cell? ⟨w.heap.size, 1, none⟩ = some (.int .u64 a0) := by rw [hcl _ _ (by omega)]; assumption
      have cb1 : w'.cell? ⟨w.heap.size + 1, 0, none⟩ = some (.int .u64 b1) := by rw [hcl _ _ (by omega)]; assumption
      have cb0 : w'.cell? ⟨w.heap.size + 1, 1, none⟩ = some (.int .u64 b0) := by rw [hcl _ _ (by omega)]; assumption
      have cc1 : w'.cell? ⟨w.heap.size + 1 + 1, 0, none⟩ = some (.int .u64 c1) := by rw [hcl _ _ (by omega)]; assumption
      have cc0 : w'.cell? ⟨w.heap.size + 1 + 1, 1, none⟩ = some (.int .u64 c0) := by rw [hcl _ _ (by omega)]; assumption
      have cs1 : w'.cell? ⟨w1.heap.size, 0, none⟩ = some (.int .u64 s1) := by rw [hcl _ _ (by omega)]; assumption
      have cs0 : w'.cell? ⟨w1.heap.size, 1, none⟩ = some (.int .u64 s0) := by rw [hcl _ _ (by omega)]; assumption
      clear hcl hfr hbl
      have hi15 : i < 15 := by
        rcases Nat.lt_or_ge i 15 with h | h
        · exact h
        · rw [Array.getD_eq_getD_getElem?, Array.getElem?_eq_none (by simpa using h)] at hoff; cases hoff
      simp only [Act.put, List.setIfInBounds_toArray, List.set_cons_zero, List.set_cons_succ]
      rcases (show i = 0 ∨ i = 1 ∨ i = 2 ∨ i = 3 ∨ i = 4 ∨ i = 5 ∨ i = 6 ∨ i = 7 ∨ i = 8 ∨ i = 9 ∨ i = 10 ∨ i = 11 ∨ i = 12 ∨ i = 13 ∨ i = 14 by omega) with rfl | rfl | rfl | rfl | rfl | rfl | rfl | rfl | rfl | rfl | rfl | rfl | rfl | rfl | rfl
      · have o0 : l0 = false := hoff
        clear hoff hi15
        refine inv_step (i := 0) (o := _) (by simp only [List.getElem?_toArray, List.getElem?_cons_zero]; rfl) (fun K hK => ?_)
        go_simp
        exact hK.out _ _ ⟨true, l1, l2, l3, l4, l5, l6, l7, l8, l9, l10, l11, l12, l13, l14, .agg #[.int .u64 a1, .int .u64 a0], t35, t36, t37, t38, t39, t40, t41, t42, t9, t10, t11, rfl, by first | rfl | simp only [Act.put, List.setIfInBounds_toArray, List.set_cons_zero, List.set_cons_succ], (fun _ => rfl), cd1, cd2, cd3, cd4, cd5, cd6, cd7, cd8, d9, d10, d11, n10_9, n11_9, n11_10, f12, f13, f14, HBL.out⟩
      · have o1 : l1 = false := hoff
        clear hoff hi15
        refine inv_step (i := 1) (o := _) (by simp only [List.getElem?_toArray, List.getElem?_cons_succ, List.getElem?_cons_zero]; rfl) (fun K hK => ?_)
        go_simp
        exact hK.out _ _ ⟨l0, true, l2, l3, l4, l5, l6, l7, l8, l9, l10, l11, l12, l13, l14, t34, .agg #[.int .u64 b1, .int .u64 b0], t36, t37, t38, t39, t40, t41, t42, t9, t10, t11, rfl, by first | rfl | simp only [Act.put, List.setIfInBounds_toArray, List.set_cons_zero, List.set_cons_succ], cd0, (fun _ => rfl), cd2, cd3, cd4, cd5, cd6, cd7, cd8, d9, d10, d11, n10_9, n11_9, n11_10, f12, f13, f14, HBL.out⟩
      · have o2 : l2 = false := hoff
        have h0 : l0 = true := ready_dep (j := 0) hi (by kernel_rfl)
        have h1 : l1 = true := ready_dep (j := 1) hi (by kernel_rfl)
        clear hoff hi15
        have e0 := cd0 h0
        have e1 := cd1 h1
        subst e0
        subst e1
        refine inv_step (i := 2) (o := _) (by simp only [List.getElem?_toArray, List.getElem?_cons_succ, List.getElem?_cons_zero]; rfl) (fun K hK => ?_)
        go_simp
        (with_reducible refine (K20.out _).mono ?_)
        rintro e w2 ⟨rfl, hb⟩
        try go_wp2_with fail
        exact hK.out _ _ ⟨l0, l1, true, l3, l4, l5, l6, l7, l8, l9, l10, l11, l12, l13, l14, .agg #[.int .u64 a1, .int .u64 a0], .agg #[.int .u64 b1, .int .u64 b0], .agg #[.int .u64 p3, .int .u64 p2, .int .u64 p1, .int .u64 p0], t37, t38, t39, t40, t41, t42, t9, t10, t11, rfl, by first | rfl | simp only [Act.put, List.setIfInBounds_toArray, List.set_cons_zero, List.set_cons_succ], (fun _ => rfl), (fun _ => rfl), (fun _ => rfl), cd3, cd4, cd5, cd6, cd7, cd8, (d9.step hb), (d10.step hb), (d11.step hb), n10_9, n11_9, n11_10, f12, f13, f14, (bl_trans HBL.out hb)⟩
      · have o3 : l3 = false := hoff
        clear hoff hi15
        refine inv_step (i := 3) (o := _) (by simp only [List.getElem?_toArray, List.getElem?_cons_succ, List.getElem?_cons_zero]; rfl) (fun K hK => ?_)
        go_simp
        exact hK.out _ _ ⟨l0, l1, l2, true, l4, l5, l6, l7, l8, l9, l10, l11, l12, l13, l14, t34, t35, t36, .agg #[.int .u64 a1, .int .u64 a0], t38, t39, t40, t41, t42, t9, t10, t11, rfl, by first | rfl | simp only [Act.put, List.setIfInBounds_toArray, List.set_cons_zero, List.set_cons_succ], cd0, cd1, cd2, (fun _ => rfl), cd4, cd5, cd6, cd7, cd8, d9, d10, d11, n10_9, n11_9, n11_10, f12, f13, f14, HBL.out⟩
      · have o4 : l4 = false := hoff
        clear hoff hi15
        refine inv_step (i := 4) (o := _) (by simp only [List.getElem?_toArray, List.getElem?_cons_succ, List.getElem?_cons_zero]; rfl) (fun K hK => ?_)
        go_simp
        exact hK.out _ _ ⟨l0, l1, l2, l3, true, l5, l6, l7, l8, l9, l10, l11, l12, l13, l14, t34, t35, t36, t37, .agg #[.int .u64 c1, .int .u64 c0], t39, t40, t41, t42, t9, t10, t11, rfl, by first | rfl | simp only [Act.put, List.setIfInBounds_toArray, List.set_cons_zero, List.set_cons_succ], cd0, cd1, cd2, cd3, (fun _ => rfl), cd5, cd6, cd7, cd8, d9, d10, d11, n10_9, n11_9, n11_10, f12, f13, f14, HBL.out⟩
      · have o5 : l5 = false := hoff
        have h3 : l3 = true := ready_dep (j := 3) hi (by kernel_rfl)
        have h4 : l4 = true := ready_dep (j := 4) hi (by kernel_rfl)
        have h2 : l2 = true := ready_dep (j := 2) hi (by kernel_rfl)
        clear hoff hi15
        have e3 := cd3 h3
        have e4 := cd4 h4
        have e2 := cd2 h2
        subst e3
        subst e4
        subst e2
        refine inv_step (i := 5) (o := _) (by simp only [List.getElem?_toArray, List.getElem?_cons_succ, List.getElem?_cons_zero]; rfl) (fun K hK => ?_)
        go_simp
        (with_reducible refine (K4.out _).mono ?_)
        rintro e w2 ⟨rfl, hb⟩
        try go_wp2_with fail
        exact hK.out _ _ ⟨l0, l1, l2, l3, l4, true, l6, l7, l8, l9, l10, l11, l12, l13, l14, t34, t35, .agg #[.int .u64 p3, .int .u64 p2, .int .u64 p1, .int .u64 p0], .agg #[.int .u64 a1, .int .u64 a0], .agg #[.int .u64 c1, .int .u64 c0], .agg #[.int .u64 q3, .int .u64 q2, .int .u64 q1, .int .u64 q0], t40, t41, t42, t9, t10, t11, rfl, by first | rfl | simp only [Act.put, List.setIfInBounds_toArray, List.set_cons_zero, List.set_cons_succ], cd0, cd1, (fun _ => rfl), (fun _ => rfl), (fun _ => rfl), (fun _ => rfl), cd6, cd7, cd8, (d9.step hb), (d10.step hb), (d11.step hb), n10_9, n11_9, n11_10, f12, f13, f14, (bl_trans HBL.out hb)⟩
      · have o6 : l6 = false := hoff
        clear hoff hi15
        refine inv_step (i := 6) (o := _) (by simp only [List.getElem?_toArray, List.getElem?_cons_succ, List.getElem?_cons_zero]; rfl) (fun K hK => ?_)
        go_simp
        exact hK.out _ _ ⟨l0, l1, l2, l3, l4, l5, true, l7, l8, l9, l10, l11, l12, l13, l14, t34, t35, t36, t37, t38, t39, .agg #[.int .u64 a1, .int .u64 a0], t41, t42, t9, t10, t11, rfl, by first | rfl | simp only [Act.put, List.setIfInBounds_toArray, List.set_cons_zero, List.set_cons_succ], cd0, cd1, cd2, cd3, cd4, cd5, (fun _ => rfl), cd7, cd8, d9, d10, d11, n10_9, n11_9, n11_10, f12, f13, f14, HBL.out⟩
      · have o7 : l7 = false := hoff
        clear hoff hi15
        refine inv_step (i := 7) (o := _) (by simp only [List.getElem?_toArray, List.getElem?_cons_succ, List.getElem?_cons_zero]; rfl) (fun K hK => ?_)
        go_simp
        exact hK.out _ _ ⟨l0, l1, l2, l3, l4, l5, l6, true, l8, l9, l10, l11, l12, l13, l14, t34, t35, t36, t37, t38, t39, t40, .agg #[.int .u64 s1, .int .u64 s0], t42, t9, t10, t11, rfl, by first | rfl | simp only [Act.put, List.setIfInBounds_toArray, List.set_cons_zero, List.set_cons_succ], cd0, cd1, cd2, cd3, cd4, cd5, cd6, (fun _ => rfl), cd8, d9, d10, d11, n10_9, n11_9, n11_10, f12, f13, f14, HBL.out⟩
      · have o8 : l8 = false := hoff
        have h6 : l6 = true := ready_dep (j := 6) hi (by kernel_rfl)
        have h7 : l7 = true := ready_dep (j := 7) hi (by kernel_rfl)
        have h5 : l5 = true := ready_dep (j := 5) hi (by kernel_rfl)
        clear hoff hi15
        have e6 := cd6 h6
        have e7 := cd7 h7
        have e5 := cd5 h5
        subst e6
        subst e7
        subst e5
        refine inv_step (i := 8) (o := _) (by simp only [List.getElem?_toArray, List.getElem?_cons_succ, List.getElem?_cons_zero]; rfl) (fun K hK => ?_)
        go_simp
        (with_reducible refine (K5.out _).mono ?_)
        rintro e w2 ⟨rfl, hb⟩
        try go_wp2_with fail
        exact hK.out _ _ ⟨l0, l1, l2, l3, l4, l5, l6, l7, true, l9, l10, l11, l12, l13, l14, t34, t35, t36, t37, t38, .agg #[.int .u64 q3, .int .u64 q2, .int .u64 q1, .int .u64 q0], .agg #[.int .u64 a1, .int .u64 a0], .agg #[.int .u64 s1, .int .u64 s0], .agg #[.int .u64 r3, .int .u64 r2, .int .u64 r1, .int .u64 r0], t9, t10, t11, rfl, by first | rfl | simp only [Act.put, List.setIfInBounds_toArray, List.set_cons_zero, List.set_cons_succ], cd0, cd1, cd2, cd3, cd4, (fun _ => rfl), (fun _ => rfl), (fun _ => rfl), (fun _ => rfl), (d9.step hb), (d10.step hb), (d11.step hb), n10_9, n11_9, n11_10, f12, f13, f14, (bl_trans HBL.out hb)⟩
      · have o9 : l9 = false := hoff
        clear hoff hi15
        refine inv_step (i := 9) (o := _) (by simp only [List.getElem?_toArray, List.getElem?_cons_succ, List.getElem?_cons_zero]; rfl) (fun K hK => ?_)
        go_simp
        exact hK.out _ _ ⟨l0, l1, l2, l3, l4, l5, l6, l7, l8, true, l10, l11, l12, l13, l14, t34, t35, t36, t37, t38, t39, t40, t41, t42, .pointer (some ⟨w'.heap.size, 0, none⟩), t10, t11, rfl, by first | rfl | simp only [Act.put, List.setIfInBounds_toArray, List.set_cons_zero, List.set_cons_succ], cd0, cd1, cd2, cd3, cd4, cd5, cd6, cd7, cd8, (by rw [show l12 = false from by cases hl : l12 with | false => rfl | true => exact absurd (f12 hl) (by rw [o9]; exact Bool.false_ne_true)]; exact Dk.laid HBL.out.size), (d10.step (bl_al (Below.refl _ _) _)), (d11.step (bl_al (Below.refl _ _) _)), (fun e _ => d10.far e), (fun e _ => d11.far e), n11_10, (fun _ => rfl), f13, f14, (bl_al HBL.out _)⟩
      · have o10 : l10 = false := hoff
        clear hoff hi15
        refine inv_step (i := 10) (o := _) (by simp only [List.getElem?_toArray, List.getElem?_cons_succ, List.getElem?_cons_zero]; rfl) (fun K hK => ?_)
        go_simp
        exact hK.out _ _ ⟨l0, l1, l2, l3, l4, l5, l6, l7, l8, l9, true, l11, l12, l13, l14, t34, t35, t36, t37, t38, t39, t40, t41, t42, t9, .pointer (some ⟨w'.heap.size, 0, none⟩), t11, rfl, by first | rfl | simp only [Act.put, List.setIfInBounds_toArray, List.set_cons_zero, List.set_cons_succ], cd0, cd1, cd2, cd3, cd4, cd5, cd6, cd7, cd8, (d9.step (bl_al (Below.refl _ _) _)), (by rw [show l13 = false from by cases hl : l13 with | false => rfl | true => exact absurd (f13 hl) (by rw [o10]; exact Bool.false_ne_true)]; exact Dk.laid HBL.out.size), (d11.step (bl_al (Below.refl _ _) _)), (fun _ e => Ne.symm (d9.far e)), n11_9, (fun e _ => d11.far e), f12, (fun _ => rfl), f14, (bl_al HBL.out _)⟩
      · have o11 : l11 = false := hoff
        clear hoff hi15
        refine inv_step (i := 11) (o := _) (by simp only [List.getElem?_toArray, List.getElem?_cons_succ, List.getElem?_cons_zero]; rfl) (fun K hK => ?_)
        go_simp
        exact hK.out _ _ ⟨l0, l1, l2, l3, l4, l5, l6, l7, l8, l9, l10, true, l12, l13, l14, t34, t35, t36, t37, t38, t39, t40, t41, t42, t9, t10, .pointer (some ⟨w'.heap.size, 0, none⟩), rfl, by first | rfl | simp only [Act.put, List.setIfInBounds_toArray, List.set_cons_zero, List.set_cons_succ], cd0, cd1, cd2, cd3, cd4, cd5, cd6, cd7, cd8, (d9.step (bl_al (Below.refl _ _) _)), (d10.step (bl_al (Below.refl _ _) _)), (by rw [show l14 = false from by cases hl : l14 with | false => rfl | true => exact absurd (f14 hl) (by rw [o11]; exact Bool.false_ne_true)]; exact Dk.laid HBL.out.size), n10_9, (fun _ e => Ne.symm (d9.far e)), (fun _ e => Ne.symm (d10.far e)), f12, f13, (fun _ => rfl), (bl_al HBL.out _)⟩
      · have o12 : l12 = false := hoff
        have h9 : l9 = true := ready_dep (j := 9) hi (by kernel_rfl)
        have h2 : l2 = true := ready_dep (j := 2) hi (by kernel_rfl)
        clear hoff hi15
        obtain ⟨B, eB, hB1, hB2, hB3⟩ := d9 h9
        subst eB
        have ev := cd2 h2
        subst ev
        rw [o12] at hB2
        have hB4 : Has B [.int .u64 0, .int .u64 0, .int .u64 0, .int .u64 0] w' := hB2
        have z0 := hB4.2 0 _ rfl; have z1 := hB4.2 1 _ rfl; have z2 := hB4.2 2 _ rfl; have z3 := hB4.2 3 _ rfl
        have zf : ∀ j, w'.frozen? ⟨B, j, none⟩ = false := hB3
        have zB := hB4.1
        refine inv_step (i := 12) (o := _) (by simp only [List.getElem?_toArray, List.getElem?_cons_succ, List.getElem?_cons_zero]; rfl) (fun K hK => ?_)
        go_simp
        exact hK.out _ _ ⟨l0, l1, l2, l3, l4, l5, l6, l7, l8, l9, l10, l11, true, l13, l14, t34, t35, .agg #[.int .u64 p3, .int .u64 p2, .int .u64 p1, .int .u64 p0], t37, t38, t39, t40, t41, t42, .pointer (some ⟨B, 0, none⟩), t10, t11, rfl, by first | rfl | simp only [Act.put, List.setIfInBounds_toArray, List.set_cons_zero, List.set_cons_succ], cd0, cd1, (fun _ => rfl), cd3, cd4, cd5, cd6, cd7, cd8, (fun _ => ⟨B, rfl, hB1, Has.mk4 (by simp [zB]) (by simp [go_sem, *]) (by simp [go_sem, *]) (by simp [go_sem, *]) (by simp [go_sem, *]), fun j => by simp only [World.frozen?_setCell]; exact zf j⟩), (d10.wrote (Wrote.setCell (Wrote.setCell (Wrote.setCell (Wrote.setCell (Wrote.refl B 0 4 w') (by decide) (by decide) _) (by decide) (by decide) _) (by decide) (by decide) _) (by decide) (by decide) _) (fun e => n10_9 e h9)), (d11.wrote (Wrote.setCell (Wrote.setCell (Wrote.setCell (Wrote.setCell (Wrote.refl B 0 4 w') (by decide) (by decide) _) (by decide) (by decide) _) (by decide) (by decide) _) (by decide) (by decide) _) (fun e => n11_9 e h9)), n10_9, n11_9, n11_10, (fun _ => h9), f13, f14, (by exact Below.setCell (Below.setCell (Below.setCell (Below.setCell HBL.out hB1 _) hB1 _) hB1 _) hB1 _)⟩
      · have o13 : l13 = false := hoff
        have h10 : l10 = true := ready_dep (j := 10) hi (by kernel_rfl)
        have h5 : l5 = true := ready_dep (j := 5) hi (by kernel_rfl)
        have h12 : l12 = true := ready_dep (j := 12) hi (by kernel_rfl)
        clear hoff hi15
        obtain ⟨B, eB, hB1, hB2, hB3⟩ := d10 h10
        subst eB
        have ev := cd5 h5
        subst ev
        rw [o13] at hB2
        have hB4 : Has B [.int .u64 0, .int .u64 0, .int .u64 0, .int .u64 0] w' := hB2
        have z0 := hB4.2 0 _ rfl; have z1 := hB4.2 1 _ rfl; have z2 := hB4.2 2 _ rfl; have z3 := hB4.2 3 _ rfl
        have zf : ∀ j, w'.frozen? ⟨B, j, none⟩ = false := hB3
        have zB := hB4.1
        refine inv_step (i := 13) (o := _) (by simp only [List.getElem?_toArray, List.getElem?_cons_succ, List.getElem?_cons_zero]; rfl) (fun K hK => ?_)
        go_simp
        exact hK.out _ _ ⟨l0, l1, l2, l3, l4, l5, l6, l7, l8, l9, l10, l11, l12, true, l14, t34, t35, t36, t37, t38, .agg #[.int .u64 q3, .int .u64 q2, .int .u64 q1, .int .u64 q0], t40, t41, t42, t9, .pointer (some ⟨B, 0, none⟩), t11, rfl, by first | rfl | simp only [Act.put, List.setIfInBounds_toArray, List.set_cons_zero, List.set_cons_succ], cd0, cd1, cd2, cd3, cd4, (fun _ => rfl), cd6, cd7, cd8, (d9.wrote (Wrote.setCell (Wrote.setCell (Wrote.setCell (Wrote.setCell (Wrote.refl B 0 4 w') (by decide) (by decide) _) (by decide) (by decide) _) (by decide) (by decide) _) (by decide) (by decide) _) (fun e => Ne.symm (n10_9 h10 e))), (fun _ => ⟨B, rfl, hB1, Has.mk4 (by simp [zB]) (by simp [go_sem, *]) (by simp [go_sem, *]) (by simp [go_sem, *]) (by simp [go_sem, *]), fun j => by simp only [World.frozen?_setCell]; exact zf j⟩), (d11.wrote (Wrote.setCell (Wrote.setCell (Wrote.setCell (Wrote.setCell (Wrote.refl B 0 4 w') (by decide) (by decide) _) (by decide) (by decide) _) (by decide) (by decide) _) (by decide) (by decide) _) (fun e => n11_10 e h10)), n10_9, n11_9, n11_10, f12, (fun _ => h10), f14, (by exact Below.setCell (Below.setCell (Below.setCell (Below.setCell HBL.out hB1 _) hB1 _) hB1 _) hB1 _)⟩
      · have o14 : l14 = false := hoff
        have h11 : l11 = true := ready_dep (j := 11) hi (by kernel_rfl)
        have h8 : l8 = true := ready_dep (j := 8) hi (by kernel_rfl)
        have h13 : l13 = true := ready_dep (j := 13) hi (by kernel_rfl)
        clear hoff hi15
        obtain ⟨B, eB, hB1, hB2, hB3⟩ := d11 h11
        subst eB
        have ev := cd8 h8
        subst ev
        rw [o14] at hB2
        have hB4 : Has B [.int .u64 0, .int .u64 0, .int .u64 0, .int .u64 0] w' := hB2
        have z0 := hB4.2 0 _ rfl; have z1 := hB4.2 1 _ rfl; have z2 := hB4.2 2 _ rfl; have z3 := hB4.2 3 _ rfl
        have zf : ∀ j, w'.frozen? ⟨B, j, none⟩ = false := hB3
        have zB := hB4.1
        refine inv_step (i := 14) (o := _) (by simp only [List.getElem?_toArray, List.getElem?_cons_succ, List.getElem?_cons_zero]; rfl) (fun K hK => ?_)
        go_simp
        exact hK.out _ _ ⟨l0, l1, l2, l3, l4, l5, l6, l7, l8, l9, l10, l11, l12, l13, true, t34, t35, t36, t37, t38, t39, t40, t41, .agg #[.int .u64 r3, .int .u64 r2, .int .u64 r1, .int .u64 r0], t9, t10, .pointer (some ⟨B, 0, none⟩), rfl, by first | rfl | simp only [Act.put, List.setIfInBounds_toArray, List.set_cons_zero, List.set_cons_succ], cd0, cd1, cd2, cd3, cd4, cd5, cd6, cd7, (fun _ => rfl), (d9.wrote (Wrote.setCell (Wrote.setCell (Wrote.setCell (Wrote.setCell (Wrote.refl B 0 4 w') (by decide) (by decide) _) (by decide) (by decide) _) (by decide) (by decide) _) (by decide) (by decide) _) (fun e => Ne.symm (n11_9 h11 e))), (d10.wrote (Wrote.setCell (Wrote.setCell (Wrote.setCell (Wrote.setCell (Wrote.refl B 0 4 w') (by decide) (by decide) _) (by decide) (by decide) _) (by decide) (by decide) _) (by decide) (by decide) _) (fun e => Ne.symm (n11_10 h11 e))), (fun _ => ⟨B, rfl, hB1, Has.mk4 (by simp [zB]) (by simp [go_sem, *]) (by simp [go_sem, *]) (by simp [go_sem, *]) (by simp [go_sem, *]), fun j => by simp only [World.frozen?_setCell]; exact zf j⟩), n10_9, n11_9, n11_10, f12, f13, (fun _ => h11), (by exact Below.setCell (Below.setCell (Below.setCell (Below.setCell HBL.out hB1 _) hB1 _) hB1 _) hB1 _)⟩
    · rintro l a' w' ⟨l0, l1, l2, l3, l4, l5, l6, l7, l8, l9, l10, l11, l12, l13, l14, t34, t35, t36, t37, t38, t39, t40, t41, t42, t9, t10, t11, rfl, rfl, cd0, cd1, cd2, cd3, cd4, cd5, cd6, cd7, cd8, d9, d10, d11, n10_9, n11_9, n11_10, f12, f13, f14, hbl⟩ hr
      have g0 : l0 = true := none_left hr (i := 0) (o := _) (by simp only [List.getElem?_toArray, List.getElem?_cons_zero]; rfl) (by intro e he; simp at he)
      have g1 : l1 = true := none_left hr (i := 1) (o := _) (by simp only [List.getElem?_toArray, List.getElem?_cons_succ, List.getElem?_cons_zero]; rfl) (by intro e he; simp at he)
      have g2 : l2 = true := none_left hr (i := 2) (o := _) (by simp only [List.getElem?_toArray, List.getElem?_cons_succ, List.getElem?_cons_zero]; rfl) (by intro e he _; simp at he; rcases he with rfl | rfl <;> first | exact g0 | exact g1)
      have g3 : l3 = true := none_left hr (i := 3) (o := _) (by simp only [List.getElem?_toArray, List.getElem?_cons_succ, List.getElem?_cons_zero]; rfl) (by intro e he; simp at he)
      have g4 : l4 = true := none_left hr (i := 4) (o := _) (by simp only [List.getElem?_toArray, List.getElem?_cons_succ, List.getElem?_cons_zero]; rfl) (by intro e he; simp at he)
      have g5 : l5 = true := none_left hr (i := 5) (o := _) (by simp only [List.getElem?_toArray, List.getElem?_cons_succ, List.getElem?_cons_zero]; rfl) (by intro e he _; simp at he; rcases he with rfl | rfl | rfl <;> first | exact g2 | exact g3 | exact g4)
      have g6 : l6 = true := none_left hr (i := 6) (o := _) (by simp only [List.getElem?_toArray, List.getElem?_cons_succ, List.getElem?_cons_zero]; rfl) (by intro e he; simp at he)
      have g7 : l7 = true := none_left hr (i := 7) (o := _) (by simp only [List.getElem?_toArray, List.getElem?_cons_succ, List.getElem?_cons_zero]; rfl) (by intro e he; simp at he)
      have g8 : l8 = true := none_left hr (i := 8) (o := _) (by simp only [List.getElem?_toArray, List.getElem?_cons_succ, List.getElem?_cons_zero]; rfl) (by intro e he _; simp at he; rcases he with rfl | rfl | rfl <;> first | exact g5 | exact g6 | exact g7)
      have g9 : l9 = true := none_left hr (i := 9) (o := _) (by simp only [List.getElem?_toArray, List.getElem?_cons_succ, List.getElem?_cons_zero]; rfl) (by intro e he; simp at he)
      have g10 : l10 = true := none_left hr (i := 10) (o := _) (by simp only [List.getElem?_toArray, List.getElem?_cons_succ, List.getElem?_cons_zero]; rfl) (by intro e he; simp at he)
      have g11 : l11 = true := none_left hr (i := 11) (o := _) (by simp only [List.getElem?_toArray, List.getElem?_cons_succ, List.getElem?_cons_zero]; rfl) (by intro e he; simp at he)
      have g12 : l12 = true := none_left hr (i := 12) (o := _) (by simp only [List.getElem?_toArray, List.getElem?_cons_succ, List.getElem?_cons_zero]; rfl) (by intro e he _; simp at he; rcases he with rfl | rfl | rfl | rfl | rfl | rfl | rfl | rfl | rfl | rfl | rfl | rfl | rfl | rfl | rfl <;> first | exact g0 | exact g1 | exact g2 | exact g3 | exact g4 | exact g5 | exact g6 | exact g7 | exact g8 | exact g9 | exact g10 | exact g11)
      have g13 : l13 = true := none_left hr (i := 13) (o := _) (by simp only [List.getElem?_toArray, List.getElem?_cons_succ, List.getElem?_cons_zero]; rfl) (by intro e he _; simp at he; rcases he with rfl | rfl | rfl | rfl | rfl | rfl | rfl | rfl | rfl | rfl | rfl | rfl | rfl | rfl | rfl | rfl <;> first | exact g0 | exact g1 | exact g2 | exact g3 | exact g4 | exact g5 | exact g6 | exact g7 | exact g8 | exact g9 | exact g10 | exact g11 | exact g12)
      have g14 : l14 = true := none_left hr (i := 14) (o := _) (by simp only [List.getElem?_toArray, List.getElem?_cons_succ, List.getElem?_cons_zero]; rfl) (by intro e he _; simp at he; rcases he with rfl | rfl | rfl | rfl | rfl | rfl | rfl | rfl | rfl | rfl | rfl | rfl | rfl | rfl | rfl | rfl | rfl <;> first | exact g0 | exact g1 | exact g2 | exact g3 | exact g4 | exact g5 | exact g6 | exact g7 | exact g8 | exact g9 | exact g10 | exact g11 | exact g12 | exact g13)
      have HBL := hbl
      obtain ⟨b9, v9, x9, y9, _⟩ := d9 g9
      rw [if_pos g12] at y9
      obtain ⟨b10, v10, x10, y10, _⟩ := d10 g10
      rw [if_pos g13] at y10
      obtain ⟨b11, v11, x11, y11, _⟩ := d11 g11
      rw [if_pos g14] at y11
      subst v9; subst v10; subst v11
      have m1 := n10_9 g10 g9; have m2 := n11_9 g11 g9; have m3 := n11_10 g11 g10
      have u34 := cd0 g0; subst u34
      have u35 := cd1 g1; subst u35
      have u36 := cd2 g2; subst u36
      have u37 := cd3 g3; subst u37
      have u38 := cd4 g4; subst u38
      have u39 := cd5 g5; subst u39
      have u40 := cd6 g6; subst u40
      have u41 := cd7 g7; subst u41
      have u42 := cd8 g8; subst u42
      simp only [Act.put, List.setIfInBounds_toArray, List.set_cons_zero, List.set_cons_succ]
      go_wp2_with fail
      go_meet
      exact ⟨b9, b10, b11, rfl, rfl, rfl, x9, x10, x11, fun h => m1 (by rw [h]), fun h => m2 (by rw [h]), fun h => m3 (by rw [h]), HBL, y9, y10, y11⟩
  case rest =>
  obtain ⟨X1, hX1⟩ : ∃ X, X = wc := ⟨wc, rfl⟩
  subst hX1
  obtain ⟨bX1p, bX1q, bX1r, rfl, rfl, rfl, m_bX1p, m_bX1q, m_bX1r, n_bX1q_bX1p, n_bX1r_bX1p, n_bX1r_bX1q, hX, g_p, g_q, g_r⟩ := hcut
  have zX1_a : w.heap.size < X1.heap.size := Nat.lt_of_lt_of_le zR2_a hX.size
  have cX1_a_0 : X1.cell? ⟨w.heap.size, 0, none⟩ = some (.int .u64 a1) := by rw [(bcell hX).1 _ _ zR2_a]; exact cR2_a_0
  have cX1_a_1 : X1.cell? ⟨w.heap.size, 1, none⟩ = some (.int .u64 a0) := by rw [(bcell hX).1 _ _ zR2_a]; exact cR2_a_1
  have zX1_b : w.heap.size + 1 < X1.heap.size := Nat.lt_of_lt_of_le zR2_b hX.size
  have cX1_b_0 : X1.cell? ⟨w.heap.size + 1, 0, none⟩ = some (.int .u64 b1) := by rw [(bcell hX).1 _ _ zR2_b]; exact cR2_b_0
  have cX1_b_1 : X1.cell? ⟨w.heap.size + 1, 1, none⟩ = some (.int .u64 b0) := by rw [(bcell hX).1 _ _ zR2_b]; exact cR2_b_1
  have zX1_c : w.heap.size + 1 + 1 < X1.heap.size := Nat.lt_of_lt_of_le zR2_c hX.size
  have cX1_c_0 : X1.cell? ⟨w.heap.size + 1 + 1, 0, none⟩ = some (.int .u64 c1) := by rw [(bcell hX).1 _ _ zR2_c]; exact cR2_c_0
  have cX1_c_1 : X1.cell? ⟨w.heap.size + 1 + 1, 1, none⟩ = some (.int .u64 c0) := by rw [(bcell hX).1 _ _ zR2_c]; exact cR2_c_1
  have zX1_s : w1.heap.size < X1.heap.size := Nat.lt_of_lt_of_le zR2_s hX.size
  have cX1_s_0 : X1.cell? ⟨w1.heap.size, 0, none⟩ = some (.int .u64 s1) := by rw [(bcell hX).1 _ _ zR2_s]; exact cR2_s_0
  have cX1_s_1 : X1.cell? ⟨w1.heap.size, 1, none⟩ = some (.int .u64 s0) := by rw [(bcell hX).1 _ _ zR2_s]; exact cR2_s_1
  have zX1_p := g_p.1; have cX1_p_0 := g_p.2 0 _ rfl; have cX1_p_1 := g_p.2 1 _ rfl; have cX1_p_2 := g_p.2 2 _ rfl; have cX1_p_3 := g_p.2 3 _ rfl; clear g_p
  have zX1_q := g_q.1; have cX1_q_0 := g_q.2 0 _ rfl; have cX1_q_1 := g_q.2 1 _ rfl; have cX1_q_2 := g_q.2 2 _ rfl; have cX1_q_3 := g_q.2 3 _ rfl; clear g_q
  have zX1_r := g_r.1; have cX1_r_0 := g_r.2 0 _ rfl; have cX1_r_1 := g_r.2 1 _ rfl; have cX1_r_2 := g_r.2 2 _ rfl; have cX1_r_3 := g_r.2 3 _ rfl; clear g_r
  have HBX1 : Hid (Below w.heap.size w X1) := bl_trans HBR2.out hX
  clear hX
  clear zR2_a yR2_a yyR2_a cR2_a_0 cR2_a_1 zR2_b yR2_b yyR2_b cR2_b_0 cR2_b_1 zR2_c yR2_c yyR2_c cR2_c_0 cR2_c_1 zR2_s yR2_s yyR2_s cR2_s_0 cR2_s_1 HBR2 m_bX1p m_bX1q m_bX1r n_bX1q_bX1p n_bX1r_bX1p n_bX1r_bX1q
  go_wp2_with fail
  (with_reducible refine (K6.out _).mono ?_); rintro e w7 ⟨rfl, hb⟩; obtain ⟨hclw7, hfrw7⟩ := bcell hb; have zw7_a : w.heap.size < w7.heap.size := (by first | omega | (have hz := hb.size; (try simp at hz); omega)); have yw7_a : w.heap.size < w7.heap.size + 1 := (by omega); have yyw7_a : w.heap.size < w7.heap.size + 1 + 1 := (by omega); have zw7_b : w.heap.size + 1 < w7.heap.size := (by first | omega | (have hz := hb.size; (try simp at hz); omega)); have yw7_b : w.heap.size + 1 < w7.heap.size + 1 := (by omega); have yyw7_b : w.heap.size + 1 < w7.heap.size + 1 + 1 := (by omega); have zw7_c : w.heap.size + 1 + 1 < w7.heap.size := (by first | omega | (have hz := hb.size; (try simp at hz); omega)); have yw7_c : w.heap.size + 1 + 1 < w7.heap.size + 1 := (by omega); have yyw7_c : w.heap.size + 1 + 1 < w7.heap.size + 1 + 1 := (by omega); have zw7_s : w1.heap.size < w7.heap.size := (by first | omega | (have hz := hb.size; (try simp at hz); omega)); have yw7_s : w1.heap.size < w7.heap.size + 1 := (by omega); have yyw7_s : w1.heap.size < w7.heap.size + 1 + 1 := (by omega); have zw7_p : bX1p < w7.heap.size := (by first | omega | (have hz := hb.size; (try simp at hz); omega)); have yw7_p : bX1p < w7.heap.size + 1 := (by omega); have yyw7_p : bX1p < w7.heap.size + 1 + 1 := (by omega); have zw7_q : bX1q < w7.heap.size := (by first | omega | (have hz := hb.size; (try simp at hz); omega)); have yw7_q : bX1q < w7.heap.size + 1 := (by omega); have yyw7_q : bX1q < w7.heap.size + 1 + 1 := (by omega); have zw7_r : bX1r < w7.heap.size := (by first | omega | (have hz := hb.size; (try simp at hz); omega)); have yw7_r : bX1r < w7.heap.size + 1 := (by omega); have yyw7_r : bX1r < w7.heap.size + 1 + 1 := (by omega); have sxw7_0 : X1.heap.size ≤ w7.heap.size := (by first | omega | (have hz := hb.size; (try simp at hz); omega)); have HBw7 : Hid (Below w.heap.size w w7) := (bl_trans (by repeat (first | with_reducible exact Below.refl _ _ | with_reducible exact Hid.out (by assumption) | with_reducible refine Below.setCell ?_ (by first | (simp; done) | omega | (simp <;> omega)) _ | with_reducible refine bl_al ?_ _ | with_reducible apply Below.drew)) hb); clear hb
  go_wp2_with fail
  (with_reducible refine (K7.out _).mono ?_); rintro e w8 ⟨rfl, hb⟩; obtain ⟨hclw8, hfrw8⟩ := bcell hb; have zw8_a : w.heap.size < w8.heap.size := (by first | omega | (have hz := hb.size; (try simp at hz); omega)); have yw8_a : w.heap.size < w8.heap.size + 1 := (by omega); have yyw8_a : w.heap.size < w8.heap.size + 1 + 1 := (by omega); have zw8_b : w.heap.size + 1 < w8.heap.size := (by first | omega | (have hz := hb.size; (try simp at hz); omega)); have yw8_b : w.heap.size + 1 < w8.heap.size + 1 := (by omega); have yyw8_b : w.heap.size + 1 < w8.heap.size + 1 + 1 := (by omega); have zw8_c : w.heap.size + 1 + 1 < w8.heap.size := (by first | omega | (have hz := hb.size; (try simp at hz); omega)); have yw8_c : w.heap.size + 1 + 1 < w8.heap.size + 1 := (by omega); have yyw8_c : w.heap.size + 1 + 1 < w8.heap.size + 1 + 1 := (by omega); have zw8_s : w1.heap.size < w8.heap.size := (by first | omega | (have hz := hb.size; (try simp at hz); omega)); have yw8_s : w1.heap.size < w8.heap.size + 1 := (by omega); have yyw8_s : w1.heap.size < w8.heap.size + 1 + 1 := (by omega); have zw8_p : bX1p < w8.heap.size := (by first | omega | (have hz := hb.size; (try simp at hz); omega)); have yw8_p : bX1p < w8.heap.size + 1 := (by omega); have yyw8_p : bX1p < w8.heap.size + 1 + 1 := (by omega); have zw8_q : bX1q < w8.heap.size := (by first | omega | (have hz := hb.size; (try simp at hz); omega)); have yw8_q : bX1q < w8.heap.size + 1 := (by omega); have yyw8_q : bX1q < w8.heap.size + 1 + 1 := (by omega); have zw8_r : bX1r < w8.heap.size := (by first | omega | (have hz := hb.size; (try simp at hz); omega)); have yw8_r : bX1r < w8.heap.size + 1 := (by omega); have yyw8_r : bX1r < w8.heap.size + 1 + 1 := (by omega); have zw8_lo : w7.heap.size < w8.heap.size := (by first | omega | (have hz := hb.size; (try simp at hz); omega)); have yw8_lo : w7.heap.size < w8.heap.size + 1 := (by omega); have yyw8_lo : w7.heap.size < w8.heap.size + 1 + 1 := (by omega); have sxw8_0 : w7.heap.size + 1 ≤ w8.heap.size := (by first | omega | (have hz := hb.size; (try simp at hz); omega)); have HBw8 : Hid (Below w.heap.size w w8) := (bl_trans (by repeat (first | with_reducible exact Below.refl _ _ | with_reducible exact Hid.out (by assumption) | with_reducible refine Below.setCell ?_ (by first | (simp; done) | omega | (simp <;> omega)) _ | with_reducible refine bl_al ?_ _ | with_reducible apply Below.drew)) hb); clear hb
  go_wp2_with fail
  (with_reducible refine (K8.out _).mono ?_); rintro e w9 ⟨rfl, hb⟩; obtain ⟨hclw9, hfrw9⟩ := bcell hb; have zw9_a : w.heap.size < w9.heap.size := (by first | omega | (have hz := hb.size; (try simp at hz); omega)); have yw9_a : w.heap.size < w9.heap.size + 1 := (by omega); have yyw9_a : w.heap.size < w9.heap.size + 1 + 1 := (by omega); have zw9_b : w.heap.size + 1 < w9.heap.size := (by first | omega | (have hz := hb.size; (try simp at hz); omega)); have yw9_b : w.heap.size + 1 < w9.heap.size + 1 := (by omega); have yyw9_b : w.heap.size + 1 < w9.heap.size + 1 + 1 := (by omega); have zw9_c : w.heap.size + 1 + 1 < w9.heap.size := (by first | omega | (have hz := hb.size; (try simp at hz); omega)); have yw9_c : w.heap.size + 1 + 1 < w9.heap.size + 1 := (by omega); have yyw9_c : w.heap.size + 1 + 1 < w9.heap.size + 1 + 1 := (by omega); have zw9_s : w1.heap.size < w9.heap.size := (by first | omega | (have hz := hb.size; (try simp at hz); omega)); have yw9_s : w1.heap.size < w9.heap.size + 1 := (by omega); have yyw9_s : w1.heap.size < w9.heap.size + 1 + 1 := (by omega); have zw9_p : bX1p < w9.heap.size := (by first | omega | (have hz := hb.size; (try simp at hz); omega)); have yw9_p : bX1p < w9.heap.size + 1 := (by omega); have yyw9_p : bX1p < w9.heap.size + 1 + 1 := (by omega); have zw9_q : bX1q < w9.heap.size := (by first | omega | (have hz := hb.size; (try simp at hz); omega)); have yw9_q : bX1q < w9.heap.size + 1 := (by omega); have yyw9_q : bX1q < w9.heap.size + 1 + 1 := (by omega); have zw9_r : bX1r < w9.heap.size := (by first | omega | (have hz := hb.size; (try simp at hz); omega)); have yw9_r : bX1r < w9.heap.size + 1 := (by omega); have yyw9_r : bX1r < w9.heap.size + 1 + 1 := (by omega); have zw9_lo : w7.heap.size < w9.heap.size := (by first | omega | (have hz := hb.size; (try simp at hz); omega)); have yw9_lo : w7.heap.size < w9.heap.size + 1 := (by omega); have yyw9_lo : w7.heap.size < w9.heap.size + 1 + 1 := (by omega); have zw9_up : w8.heap.size < w9.heap.size := (by first | omega | (have hz := hb.size; (try simp at hz); omega)); have yw9_up : w8.heap.size < w9.heap.size + 1 := (by omega); have yyw9_up : w8.heap.size < w9.heap.size + 1 + 1 := (by omega); have zw9_one : w8.heap.size + 1 < w9.heap.size := (by first | omega | (have hz := hb.size; (try simp at hz); omega)); have yw9_one : w8.heap.size + 1 < w9.heap.size + 1 := (by omega); have yyw9_one : w8.heap.size + 1 < w9.heap.size + 1 + 1 := (by omega); have sxw9_0 : w8.heap.size + 1 + 1 ≤ w9.heap.size := (by first | omega | (have hz := hb.size; (try simp at hz); omega)); have HBw9 : Hid (Below w.heap.size w w9) := (bl_trans (by repeat (first | with_reducible exact Below.refl _ _ | with_reducible exact Hid.out (by assumption) | with_reducible refine Below.setCell ?_ (by first | (simp; done) | omega | (simp <;> omega)) _ | with_reducible refine bl_al ?_ _ | with_reducible apply Below.drew)) hb); clear hb
  go_wp2_with fail
  (with_reducible refine (K9.out _).mono ?_); rintro e w10 ⟨rfl, hb⟩; obtain ⟨hclw10, hfrw10⟩ := bcell hb; have zw10_a : w.heap.size < w10.heap.size := (by first | omega | (have hz := hb.size; (try simp at hz); omega)); have yw10_a : w.heap.size < w10.heap.size + 1 := (by omega); have yyw10_a : w.heap.size < w10.heap.size + 1 + 1 := (by omega); have zw10_b : w.heap.size + 1 < w10.heap.size := (by first | omega | (have hz := hb.size; (try simp at hz); omega)); have yw10_b : w.heap.size + 1 < w10.heap.size + 1 := (by omega); have yyw10_b : w.heap.size + 1 < w10.heap.size + 1 + 1 := (by omega); have zw10_c : w.heap.size + 1 + 1 < w10.heap.size := (by first | omega | (have hz := hb.size; (try simp at hz); omega)); have yw10_c : w.heap.size + 1 + 1 < w10.heap.size + 1 := (by omega); have yyw10_c : w.heap.size + 1 + 1 < w10.heap.size + 1 + 1 := (by omega); have zw10_s : w1.heap.size < w10.heap.size := (by first | omega | (have hz := hb.size; (try simp at hz); omega)); have yw10_s : w1.heap.size < w10.heap.size + 1 := (by omega); have yyw10_s : w1.heap.size < w10.heap.size + 1 + 1 := (by omega); have zw10_p : bX1p < w10.heap.size := (by first | omega | (have hz := hb.size; (try simp at hz); omega)); have yw10_p : bX1p < w10.heap.size + 1 := (by omega); have yyw10_p : bX1p < w10.heap.size + 1 + 1 := (by omega); have zw10_q : bX1q < w10.heap.size := (by first | omega | (have hz := hb.size; (try simp at hz); omega)); have yw10_q : bX1q < w10.heap.size + 1 := (by omega); have yyw10_q : bX1q < w10.heap.size + 1 + 1 := (by omega); have zw10_r : bX1r < w10.heap.size := (by first | omega | (have hz := hb.size; (try simp at hz); omega)); have yw10_r : bX1r < w10.heap.size + 1 := (by omega); have yyw10_r : bX1r < w10.heap.size + 1 + 1 := (by omega); have zw10_lo : w7.heap.size < w10.heap.size := (by first | omega | (have hz := hb.size; (try simp at hz); omega)); have yw10_lo : w7.heap.size < w10.heap.size + 1 := (by omega); have yyw10_lo : w7.heap.size < w10.heap.size + 1 + 1 := (by omega); have zw10_up : w8.heap.size < w10.heap.size := (by first | omega | (have hz := hb.size; (try simp at hz); omega)); have yw10_up : w8.heap.size < w10.heap.size + 1 := (by omega); have yyw10_up : w8.heap.size < w10.heap.size + 1 + 1 := (by omega); have zw10_one : w8.heap.size + 1 < w10.heap.size := (by first | omega | (have hz := hb.size; (try simp at hz); omega)); have yw10_one : w8.heap.size + 1 < w10.heap.size + 1 := (by omega); have yyw10_one : w8.heap.size + 1 < w10.heap.size + 1 + 1 := (by omega); have zw10_hi : w9.heap.size < w10.heap.size := (by first | omega | (have hz := hb.size; (try simp at hz); omega)); have yw10_hi : w9.heap.size < w10.heap.size + 1 := (by omega); have yyw10_hi : w9.heap.size < w10.heap.size + 1 + 1 := (by omega); have sxw10_0 : w9.heap.size + 1 ≤ w10.heap.size := (by first | omega | (have hz := hb.size; (try simp at hz); omega)); have HBw10 : Hid (Below w.heap.size w w10) := (bl_trans (by repeat (first | with_reducible exact Below.refl _ _ | with_reducible exact Hid.out (by assumption) | with_reducible refine Below.setCell ?_ (by first | (simp; done) | omega | (simp <;> omega)) _ | with_reducible refine bl_al ?_ _ | with_reducible apply Below.drew)) hb); clear hb
  go_wp2_with fail
  go_returns
  exact ⟨rfl, by repeat (first | with_reducible exact Below.refl _ _ | with_reducible exact Hid.out (by assumption) | with_reducible refine Below.setCell ?_ (by first | (simp; done) | omega | (simp <;> omega)) _ | with_reducible refine bl_al ?_ _ | with_reducible apply Below.drew)⟩
end Go.Proofs.Ytgcblfaommhpbaa
