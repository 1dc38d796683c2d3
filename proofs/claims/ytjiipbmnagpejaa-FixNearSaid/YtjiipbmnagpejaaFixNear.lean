/- FixNear: whole numbers are multiplied, and divided where it goes, as such; by one a number is as it was. For any number and any two whole ones of 32 bits, without conditions. -/
import Derived.Test.YtjiipbmnagpejaaFixAwake
namespace Go.Proofs.Ytjiipbmnagpejaa
open Go.ChangeShapes Go.WideShapes Go.ChangeAt Go.RowKit Go.Joins

set_option maxRecDepth 20000 in
set_option maxHeartbeats 4000000 in
theorem fixNear_out0 (a1 a0 m n : Int)  (w : World)
    (C1 : ∀ W, Calls Try.prog 14 #[.agg #[.int .i64 a1, .int .u64 a0]] W fun e w' => e = .returned (.bool false) ∧ Below W.heap.size W w')
    (C2 : ∀ W, Calls Try.prog 17 #[] W fun e w' => e = .returned (.bool true) ∧ Below W.heap.size W w') :
    Calls Try.prog 7 #[.agg #[.int .i64 a1, .int .u64 a0], .int .i32 m, .int .i32 n] w fun e w' => e = .returned (.bool true) ∧ Below w.heap.size w w' := by
  have K1 := Lib.hid C1; have K2 := Lib.hid C2
  clear C1 C2
  go_enter Try.func7, Try.ntmps7
  go_wp2_with fail
  (with_reducible refine (K1.out _).mono ?_); rintro e w1 ⟨rfl, hb⟩; obtain ⟨hclw1, hfrw1⟩ := bcell hb; have zw1_a : w.heap.size < w1.heap.size := (by first | omega | (have hz := hb.size; (try simp at hz); omega)); have yw1_a : w.heap.size < w1.heap.size + 1 := (by omega); have yyw1_a : w.heap.size < w1.heap.size + 1 + 1 := (by omega); have sxw1_0 : w.heap.size + 1 ≤ w1.heap.size := (by first | omega | (have hz := hb.size; (try simp at hz); omega)); have HBw1 : Hid (Below w.heap.size w w1) := (bl_trans (by repeat (first | with_reducible exact Below.refl _ _ | with_reducible exact Hid.out (by assumption) | with_reducible refine Below.setCell ?_ (by first | (simp; done) | omega | (simp <;> omega)) _ | with_reducible refine bl_al ?_ _ | with_reducible apply Below.drew)) hb); clear hb
  go_wp2_with fail
  (with_reducible refine (K2.out _).mono ?_); rintro e w2 ⟨rfl, hb⟩; obtain ⟨hclw2, hfrw2⟩ := bcell hb; have zw2_a : w.heap.size < w2.heap.size := (by first | omega | (have hz := hb.size; (try simp at hz); omega)); have yw2_a : w.heap.size < w2.heap.size + 1 := (by omega); have yyw2_a : w.heap.size < w2.heap.size + 1 + 1 := (by omega); have sxw2_0 : w1.heap.size ≤ w2.heap.size := (by first | omega | (have hz := hb.size; (try simp at hz); omega)); have HBw2 : Hid (Below w.heap.size w w2) := (bl_trans (by repeat (first | with_reducible exact Below.refl _ _ | with_reducible exact Hid.out (by assumption) | with_reducible refine Below.setCell ?_ (by first | (simp; done) | omega | (simp <;> omega)) _ | with_reducible refine bl_al ?_ _ | with_reducible apply Below.drew)) hb); clear hb
  go_wp2_with fail
  go_returns
  exact ⟨rfl, by repeat (first | with_reducible exact Below.refl _ _ | with_reducible exact Hid.out (by assumption) | with_reducible refine Below.setCell ?_ (by first | (simp; done) | omega | (simp <;> omega)) _ | with_reducible refine bl_al ?_ _ | with_reducible apply Below.drew)⟩
set_option maxRecDepth 20000 in
set_option maxHeartbeats 4000000 in
theorem fixNear_zero (a1 a0 m x1 x0 y1 y0 p1 p0 o1 o0 : Int) (u1 : IntKind.i64.wrap m = m) (v1 : wrap64 m = m) (w : World)
    (C1 : ∀ W, Calls Try.prog 14 #[.agg #[.int .i64 a1, .int .u64 a0]] W fun e w' => e = .returned (.bool true) ∧ Below W.heap.size W w')
    (C2 : ∀ W, Calls Try.prog 27 #[.int .i64 m] W fun e w' => e = .returned (.agg #[.int .i64 x1, .int .u64 x0]) ∧ Below W.heap.size W w')
    (C3 : ∀ W, Calls Try.prog 27 #[.int .i64 0] W fun e w' => e = .returned (.agg #[.int .i64 y1, .int .u64 y0]) ∧ Below W.heap.size W w')
    (C4 : ∀ W, Calls Try.prog 20 #[.agg #[.int .i64 x1, .int .u64 x0], .agg #[.int .i64 y1, .int .u64 y0]] W fun e w' => e = .returned (.tuple #[.agg #[.int .i64 p1, .int .u64 p0], .int .i64 0]) ∧ Below W.heap.size W w')
    (C5 : ∀ W, Calls Try.prog 27 #[.int .i64 1] W fun e w' => e = .returned (.agg #[.int .i64 o1, .int .u64 o0]) ∧ Below W.heap.size W w')
    (C6 : ∀ W, Calls Try.prog 20 #[.agg #[.int .i64 a1, .int .u64 a0], .agg #[.int .i64 o1, .int .u64 o0]] W fun e w' => e = .returned (.tuple #[.agg #[.int .i64 a1, .int .u64 a0], .int .i64 0]) ∧ Below W.heap.size W w')
    (C7 : ∀ W, Calls Try.prog 21 #[.agg #[.int .i64 a1, .int .u64 a0], .agg #[.int .i64 o1, .int .u64 o0]] W fun e w' => e = .returned (.tuple #[.agg #[.int .i64 a1, .int .u64 a0], .int .i64 0]) ∧ Below W.heap.size W w')
    (C8 : ∀ W, Calls Try.prog 21 #[.agg #[.int .i64 a1, .int .u64 a0], .agg #[.int .i64 0, .int .u64 0]] W fun e w' => e = .returned (.tuple #[.agg #[.int .i64 0, .int .u64 0], .int .i64 2]) ∧ Below W.heap.size W w')
    (C9 : ∀ W, Calls Try.prog 27 #[.int .i64 0] W fun e w' => e = .returned (.agg #[.int .i64 p1, .int .u64 p0]) ∧ Below W.heap.size W w')
    (C10 : ∀ W, Calls Try.prog 39 #[.int .i64 0] W fun e w' => e = .returned (.int .i64 0) ∧ Below W.heap.size W w')
    (C11 : ∀ W, Calls Try.prog 39 #[.int .i64 2] W fun e w' => e = .returned (.int .i64 2) ∧ Below W.heap.size W w')
    (C12 : ∀ W, Calls Try.prog 17 #[] W fun e w' => e = .returned (.bool true) ∧ Below W.heap.size W w') :
    Calls Try.prog 7 #[.agg #[.int .i64 a1, .int .u64 a0], .int .i32 m, .int .i32 0] w fun e w' => e = .returned (.bool true) ∧ Below w.heap.size w w' := by
  have K1 := Lib.hid C1; have K2 := Lib.hid C2; have K3 := Lib.hid C3; have K4 := Lib.hid C4; have K5 := Lib.hid C5; have K6 := Lib.hid C6; have K7 := Lib.hid C7; have K8 := Lib.hid C8; have K9 := Lib.hid C9; have K10 := Lib.hid C10; have K11 := Lib.hid C11; have K12 := Lib.hid C12
  clear C1 C2 C3 C4 C5 C6 C7 C8 C9 C10 C11 C12
  have q1 := ne_fix_false p1 p0; have q2 := ne_fix_false a1 a0; have q3 := eq_fix_true x1 x0
  have K20 := K5; have K21 := K10; have K22 := K10
  have w0 : IntKind.i64.wrap 0 = 0 := by decide
  go_enter Try.func7, Try.ntmps7
  go_wp2_with fail
  (with_reducible refine (K1.out _).mono ?_); rintro e w1 ⟨rfl, hb⟩; obtain ⟨hclw1, hfrw1⟩ := bcell hb; have zw1_a : w.heap.size < w1.heap.size := (by first | omega | (have hz := hb.size; (try simp at hz); omega)); have yw1_a : w.heap.size < w1.heap.size + 1 := (by omega); have yyw1_a : w.heap.size < w1.heap.size + 1 + 1 := (by omega); have sxw1_0 : w.heap.size + 1 ≤ w1.heap.size := (by first | omega | (have hz := hb.size; (try simp at hz); omega)); have HBw1 : Hid (Below w.heap.size w w1) := (bl_trans (by repeat (first | with_reducible exact Below.refl _ _ | with_reducible exact Hid.out (by assumption) | with_reducible refine Below.setCell ?_ (by first | (simp; done) | omega | (simp <;> omega)) _ | with_reducible refine bl_al ?_ _ | with_reducible apply Below.drew)) hb); clear hb
  go_wp2_with fail
  (with_reducible refine (K2.out _).mono ?_); rintro e w2 ⟨rfl, hb⟩; obtain ⟨hclw2, hfrw2⟩ := bcell hb; have zw2_a : w.heap.size < w2.heap.size := (by first | omega | (have hz := hb.size; (try simp at hz); omega)); have yw2_a : w.heap.size < w2.heap.size + 1 := (by omega); have yyw2_a : w.heap.size < w2.heap.size + 1 + 1 := (by omega); have sxw2_0 : w1.heap.size ≤ w2.heap.size := (by first | omega | (have hz := hb.size; (try simp at hz); omega)); have HBw2 : Hid (Below w.heap.size w w2) := (bl_trans (by repeat (first | with_reducible exact Below.refl _ _ | with_reducible exact Hid.out (by assumption) | with_reducible refine Below.setCell ?_ (by first | (simp; done) | omega | (simp <;> omega)) _ | with_reducible refine bl_al ?_ _ | with_reducible apply Below.drew)) hb); clear hb
  go_wp2_with fail
  (with_reducible refine (K3.out _).mono ?_); rintro e w3 ⟨rfl, hb⟩; obtain ⟨hclw3, hfrw3⟩ := bcell hb; have zw3_a : w.heap.size < w3.heap.size := (by first | omega | (have hz := hb.size; (try simp at hz); omega)); have yw3_a : w.heap.size < w3.heap.size + 1 := (by omega); have yyw3_a : w.heap.size < w3.heap.size + 1 + 1 := (by omega); have sxw3_0 : w2.heap.size ≤ w3.heap.size := (by first | omega | (have hz := hb.size; (try simp at hz); omega)); have HBw3 : Hid (Below w.heap.size w w3) := (bl_trans (by repeat (first | with_reducible exact Below.refl _ _ | with_reducible exact Hid.out (by assumption) | with_reducible refine Below.setCell ?_ (by first | (simp; done) | omega | (simp <;> omega)) _ | with_reducible refine bl_al ?_ _ | with_reducible apply Below.drew)) hb); clear hb
  go_wp2_with fail
  (with_reducible refine (K4.out _).mono ?_); rintro e w4 ⟨rfl, hb⟩; obtain ⟨hclw4, hfrw4⟩ := bcell hb; have zw4_a : w.heap.size < w4.heap.size := (by first | omega | (have hz := hb.size; (try simp at hz); omega)); have yw4_a : w.heap.size < w4.heap.size + 1 := (by omega); have yyw4_a : w.heap.size < w4.heap.size + 1 + 1 := (by omega); have zw4_x : w3.heap.size < w4.heap.size := (by first | omega | (have hz := hb.size; (try simp at hz); omega)); have yw4_x : w3.heap.size < w4.heap.size + 1 := (by omega); have yyw4_x : w3.heap.size < w4.heap.size + 1 + 1 := (by omega); have zw4_y : w3.heap.size + 1 < w4.heap.size := (by first | omega | (have hz := hb.size; (try simp at hz); omega)); have yw4_y : w3.heap.size + 1 < w4.heap.size + 1 := (by omega); have yyw4_y : w3.heap.size + 1 < w4.heap.size + 1 + 1 := (by omega); have sxw4_0 : w3.heap.size + 1 + 1 ≤ w4.heap.size := (by first | omega | (have hz := hb.size; (try simp at hz); omega)); have HBw4 : Hid (Below w.heap.size w w4) := (bl_trans (by repeat (first | with_reducible exact Below.refl _ _ | with_reducible exact Hid.out (by assumption) | with_reducible refine Below.setCell ?_ (by first | (simp; done) | omega | (simp <;> omega)) _ | with_reducible refine bl_al ?_ _ | with_reducible apply Below.drew)) hb); clear hb
  go_upto_region 5 with fail
  refine name_world (P := fun W => Code.wp _ _ _ _ W) _ (fun R1 hR1 => ?_)
  have zR1_a : w.heap.size < R1.heap.size := by rw [hR1]; first | omega | (simp <;> omega)
  have yR1_a : w.heap.size < R1.heap.size + 1 := by omega
  have yyR1_a : w.heap.size < R1.heap.size + 1 + 1 := by omega
  have cR1_a_0 : R1.cell? ⟨w.heap.size, 0, none⟩ = some (.int .i64 a1) := by rw [hR1]; first | assumption | (simp [go_sem, *]; done)
  have cR1_a_1 : R1.cell? ⟨w.heap.size, 1, none⟩ = some (.int .u64 a0) := by rw [hR1]; first | assumption | (simp [go_sem, *]; done)
  have zR1_x : w3.heap.size < R1.heap.size := by rw [hR1]; first | omega | (simp <;> omega)
  have yR1_x : w3.heap.size < R1.heap.size + 1 := by omega
  have yyR1_x : w3.heap.size < R1.heap.size + 1 + 1 := by omega
  have cR1_x_0 : R1.cell? ⟨w3.heap.size, 0, none⟩ = some (.int .i64 x1) := by rw [hR1]; first | assumption | (simp [go_sem, *]; done)
  have cR1_x_1 : R1.cell? ⟨w3.heap.size, 1, none⟩ = some (.int .u64 x0) := by rw [hR1]; first | assumption | (simp [go_sem, *]; done)
  have zR1_y : w3.heap.size + 1 < R1.heap.size := by rw [hR1]; first | omega | (simp <;> omega)
  have yR1_y : w3.heap.size + 1 < R1.heap.size + 1 := by omega
  have yyR1_y : w3.heap.size + 1 < R1.heap.size + 1 + 1 := by omega
  have cR1_y_0 : R1.cell? ⟨w3.heap.size + 1, 0, none⟩ = some (.int .i64 y1) := by rw [hR1]; first | assumption | (simp [go_sem, *]; done)
  have cR1_y_1 : R1.cell? ⟨w3.heap.size + 1, 1, none⟩ = some (.int .u64 y0) := by rw [hR1]; first | assumption | (simp [go_sem, *]; done)
  have zR1_p : w4.heap.size < R1.heap.size := by rw [hR1]; first | omega | (simp <;> omega)
  have yR1_p : w4.heap.size < R1.heap.size + 1 := by omega
  have yyR1_p : w4.heap.size < R1.heap.size + 1 + 1 := by omega
  have cR1_p_0 : R1.cell? ⟨w4.heap.size, 0, none⟩ = some (.int .i64 p1) := by rw [hR1]; first | assumption | (simp [go_sem, *]; done)
  have cR1_p_1 : R1.cell? ⟨w4.heap.size, 1, none⟩ = some (.int .u64 p0) := by rw [hR1]; first | assumption | (simp [go_sem, *]; done)
  have HBR1 : Hid (Below w.heap.size w R1) := by rw [hR1]; show Below _ _ _; exact (by repeat (first | with_reducible exact Below.refl _ _ | with_reducible exact Hid.out (by assumption) | with_reducible refine Below.setCell ?_ (by first | (simp; done) | omega | (simp <;> omega)) _ | with_reducible refine bl_al ?_ _ | with_reducible apply Below.drew))
  clear hR1
  clear zw1_a yw1_a yyw1_a sxw1_0 hclw1 hfrw1 HBw1 zw2_a yw2_a yyw2_a sxw2_0 hclw2 hfrw2 HBw2 zw3_a yw3_a yyw3_a sxw3_0 hclw3 hfrw3 HBw3 zw4_a yw4_a yyw4_a zw4_x yw4_x yyw4_x zw4_y yw4_y yyw4_y sxw4_0 hclw4 hfrw4 HBw4
  go_cut [11, 12] (fun slot0 slot1 X1 => ∃ bX1one : Nat, slot0 = .pointer (some ⟨bX1one, 0, none⟩) ∧ slot1 = .int .i64 0 ∧ R1.heap.size ≤ bX1one ∧ Below R1.heap.size R1 X1 ∧ Has (bX1one) [.int .i64 a1, .int .u64 a0] X1)
  case first =>
    clear HBR1
    have ltt : ∀ n : Nat, n < n + 1 + 1 := fun n => by omega
    have lttt : ∀ n : Nat, n + 1 < n + 1 + 1 := fun n => by omega
    go_region_held3 (fun w' => w'.cell? ⟨w.heap.size, 0, none⟩ = some (.int .i64 a1) ∧ w'.cell? ⟨w.heap.size, 1, none⟩ = some (.int .u64 a0)) (first | (simp [*, go_sem]; done) | (simp [*, go_sem, World.cell?_alloc_past]; done))
      (first
        | (go_at_call 27; (with_reducible refine (K5.out _).mono ?_); rintro e w5 ⟨rfl, hb⟩; (first | (with_reducible (obtain ⟨hclw5, hfrw5⟩ := bcell_drew hb)) | (obtain ⟨hclw5, hfrw5⟩ := bcell hb)); have zw5_a : w.heap.size < w5.heap.size := (by first | omega | (have hz := hb.size; (try simp at hz); omega)); have yw5_a : w.heap.size < w5.heap.size + 1 := (by omega); have yyw5_a : w.heap.size < w5.heap.size + 1 + 1 := (by omega); (try have sw5_0 : R1.heap.size < w5.heap.size := (by first | omega | (have hz := hb.size; (try simp at hz); omega))); (try have syw5_0 : R1.heap.size < w5.heap.size + 1 := (by omega)); (try have stw5_0 : R1.heap.size + 1 < w5.heap.size := (by first | omega | (have hz := hb.size; (try simp at hz); omega))); have sxw5_0 : R1.heap.size ≤ w5.heap.size := (by first | omega | (have hz := hb.size; (try simp at hz); omega)); have HBw5 : Hid (Below R1.heap.size R1 w5) := (bl_trans (by repeat (first | with_reducible exact Below.refl _ _ | with_reducible exact Hid.out (by assumption) | with_reducible refine Below.setCell ?_ (by first | (simp; done) | omega | (simp <;> omega)) _ | with_reducible refine bl_al ?_ _ | with_reducible apply Below.drew)) hb); clear hb; clear K5)
        | (go_at_call 20; (with_reducible refine (K6.out _).mono ?_); rintro e w6 ⟨rfl, hb⟩; obtain ⟨hclw6, hfrw6⟩ := bcell hb; have zw6_a : w.heap.size < w6.heap.size := (by first | omega | (have hz := hb.size; (try simp at hz); omega)); have yw6_a : w.heap.size < w6.heap.size + 1 := (by omega); have yyw6_a : w.heap.size < w6.heap.size + 1 + 1 := (by omega); (try have sw6_0 : R1.heap.size < w6.heap.size := (by first | omega | (have hz := hb.size; (try simp at hz); omega))); (try have syw6_0 : R1.heap.size < w6.heap.size + 1 := (by omega)); (try have stw6_0 : R1.heap.size + 1 < w6.heap.size := (by first | omega | (have hz := hb.size; (try simp at hz); omega))); have sxw6_0 : R1.heap.size ≤ w6.heap.size := (by first | omega | (have hz := hb.size; (try simp at hz); omega)); (try have sw6_w5 : w5.heap.size < w6.heap.size := (by first | omega | (have hz := hb.size; (try simp at hz); omega))); (try have syw6_w5 : w5.heap.size < w6.heap.size + 1 := (by omega)); (try have stw6_w5 : w5.heap.size + 1 < w6.heap.size := (by first | omega | (have hz := hb.size; (try simp at hz); omega))); have sxw6_w5 : w5.heap.size ≤ w6.heap.size := (by first | omega | (have hz := hb.size; (try simp at hz); omega)); have HBw6 : Hid (Below R1.heap.size R1 w6) := (bl_trans (by repeat (first | with_reducible exact Below.refl _ _ | with_reducible exact Hid.out (by assumption) | with_reducible refine Below.setCell ?_ (by first | (simp; done) | omega | (simp <;> omega)) _ | with_reducible refine bl_al ?_ _ | with_reducible apply Below.drew)) hb); clear hb; clear K6))
    all_goals (rename_i hHeld; clear hHeld; go_wp2_with fail; go_meet; exact ⟨_, rfl, rfl, (by first | omega | (simp <;> omega)), (by repeat (first | with_reducible exact Below.refl _ _ | with_reducible exact Hid.out (by assumption) | with_reducible refine Below.setCell ?_ (by first | (simp; done) | omega | (simp <;> omega)) _ | with_reducible refine bl_al ?_ _ | with_reducible apply Below.drew)), Has.mk2 (by first | (simp <;> omega) | omega) (by simp [go_sem, *]) (by simp [go_sem, *])⟩)
  case rest =>
  obtain ⟨X1, hX1⟩ : ∃ X, X = wc := ⟨wc, rfl⟩
  subst hX1
  obtain ⟨bX1one, rfl, rfl, m_bX1one, hX, g_one⟩ := hcut
  have zX1_a : w.heap.size < X1.heap.size := Nat.lt_of_lt_of_le zR1_a hX.size
  have cX1_a_0 : X1.cell? ⟨w.heap.size, 0, none⟩ = some (.int .i64 a1) := by rw [(bcell hX).1 _ _ zR1_a]; exact cR1_a_0
  have cX1_a_1 : X1.cell? ⟨w.heap.size, 1, none⟩ = some (.int .u64 a0) := by rw [(bcell hX).1 _ _ zR1_a]; exact cR1_a_1
  have zX1_x : w3.heap.size < X1.heap.size := Nat.lt_of_lt_of_le zR1_x hX.size
  have cX1_x_0 : X1.cell? ⟨w3.heap.size, 0, none⟩ = some (.int .i64 x1) := by rw [(bcell hX).1 _ _ zR1_x]; exact cR1_x_0
  have cX1_x_1 : X1.cell? ⟨w3.heap.size, 1, none⟩ = some (.int .u64 x0) := by rw [(bcell hX).1 _ _ zR1_x]; exact cR1_x_1
  have zX1_y : w3.heap.size + 1 < X1.heap.size := Nat.lt_of_lt_of_le zR1_y hX.size
  have cX1_y_0 : X1.cell? ⟨w3.heap.size + 1, 0, none⟩ = some (.int .i64 y1) := by rw [(bcell hX).1 _ _ zR1_y]; exact cR1_y_0
  have cX1_y_1 : X1.cell? ⟨w3.heap.size + 1, 1, none⟩ = some (.int .u64 y0) := by rw [(bcell hX).1 _ _ zR1_y]; exact cR1_y_1
  have zX1_p : w4.heap.size < X1.heap.size := Nat.lt_of_lt_of_le zR1_p hX.size
  have cX1_p_0 : X1.cell? ⟨w4.heap.size, 0, none⟩ = some (.int .i64 p1) := by rw [(bcell hX).1 _ _ zR1_p]; exact cR1_p_0
  have cX1_p_1 : X1.cell? ⟨w4.heap.size, 1, none⟩ = some (.int .u64 p0) := by rw [(bcell hX).1 _ _ zR1_p]; exact cR1_p_1
  have zX1_one := g_one.1; have cX1_one_0 := g_one.2 0 _ rfl; have cX1_one_1 := g_one.2 1 _ rfl; clear g_one
  have HBX1 : Hid (Below w.heap.size w X1) := bl_trans HBR1.out hX
  clear hX
  clear zR1_a yR1_a yyR1_a cR1_a_0 cR1_a_1 zR1_x yR1_x yyR1_x cR1_x_0 cR1_x_1 zR1_y yR1_y yyR1_y cR1_y_0 cR1_y_1 zR1_p yR1_p yyR1_p cR1_p_0 cR1_p_1 HBR1 m_bX1one
  go_upto_region 6 with fail
  refine name_world (P := fun W => Code.wp _ _ _ _ W) _ (fun R2 hR2 => ?_)
  have zR2_a : w.heap.size < R2.heap.size := by rw [hR2]; first | omega | (simp <;> omega)
  have yR2_a : w.heap.size < R2.heap.size + 1 := by omega
  have yyR2_a : w.heap.size < R2.heap.size + 1 + 1 := by omega
  have cR2_a_0 : R2.cell? ⟨w.heap.size, 0, none⟩ = some (.int .i64 a1) := by rw [hR2]; first | assumption | (simp [go_sem, *]; done)
  have cR2_a_1 : R2.cell? ⟨w.heap.size, 1, none⟩ = some (.int .u64 a0) := by rw [hR2]; first | assumption | (simp [go_sem, *]; done)
  have zR2_x : w3.heap.size < R2.heap.size := by rw [hR2]; first | omega | (simp <;> omega)
  have yR2_x : w3.heap.size < R2.heap.size + 1 := by omega
  have yyR2_x : w3.heap.size < R2.heap.size + 1 + 1 := by omega
  have cR2_x_0 : R2.cell? ⟨w3.heap.size, 0, none⟩ = some (.int .i64 x1) := by rw [hR2]; first | assumption | (simp [go_sem, *]; done)
  have cR2_x_1 : R2.cell? ⟨w3.heap.size, 1, none⟩ = some (.int .u64 x0) := by rw [hR2]; first | assumption | (simp [go_sem, *]; done)
  have zR2_y : w3.heap.size + 1 < R2.heap.size := by rw [hR2]; first | omega | (simp <;> omega)
  have yR2_y : w3.heap.size + 1 < R2.heap.size + 1 := by omega
  have yyR2_y : w3.heap.size + 1 < R2.heap.size + 1 + 1 := by omega
  have cR2_y_0 : R2.cell? ⟨w3.heap.size + 1, 0, none⟩ = some (.int .i64 y1) := by rw [hR2]; first | assumption | (simp [go_sem, *]; done)
  have cR2_y_1 : R2.cell? ⟨w3.heap.size + 1, 1, none⟩ = some (.int .u64 y0) := by rw [hR2]; first | assumption | (simp [go_sem, *]; done)
  have zR2_p : w4.heap.size < R2.heap.size := by rw [hR2]; first | omega | (simp <;> omega)
  have yR2_p : w4.heap.size < R2.heap.size + 1 := by omega
  have yyR2_p : w4.heap.size < R2.heap.size + 1 + 1 := by omega
  have cR2_p_0 : R2.cell? ⟨w4.heap.size, 0, none⟩ = some (.int .i64 p1) := by rw [hR2]; first | assumption | (simp [go_sem, *]; done)
  have cR2_p_1 : R2.cell? ⟨w4.heap.size, 1, none⟩ = some (.int .u64 p0) := by rw [hR2]; first | assumption | (simp [go_sem, *]; done)
  have zR2_one : bX1one < R2.heap.size := by rw [hR2]; first | omega | (simp <;> omega)
  have yR2_one : bX1one < R2.heap.size + 1 := by omega
  have yyR2_one : bX1one < R2.heap.size + 1 + 1 := by omega
  have cR2_one_0 : R2.cell? ⟨bX1one, 0, none⟩ = some (.int .i64 a1) := by rw [hR2]; first | assumption | (simp [go_sem, *]; done)
  have cR2_one_1 : R2.cell? ⟨bX1one, 1, none⟩ = some (.int .u64 a0) := by rw [hR2]; first | assumption | (simp [go_sem, *]; done)
  have HBR2 : Hid (Below w.heap.size w R2) := by rw [hR2]; show Below _ _ _; exact (by repeat (first | with_reducible exact Below.refl _ _ | with_reducible exact Hid.out (by assumption) | with_reducible refine Below.setCell ?_ (by first | (simp; done) | omega | (simp <;> omega)) _ | with_reducible refine bl_al ?_ _ | with_reducible apply Below.drew))
  clear hR2
  clear HBX1 zX1_a cX1_a_0 cX1_a_1 zX1_x cX1_x_0 cX1_x_1 zX1_y cX1_y_0 cX1_y_1 zX1_p cX1_p_0 cX1_p_1 zX1_one cX1_one_0 cX1_one_1
  go_cut [13, 14] (fun slot0 slot1 X2 => ∃ bX2by : Nat, slot0 = .pointer (some ⟨bX2by, 0, none⟩) ∧ slot1 = .int .i64 0 ∧ R2.heap.size ≤ bX2by ∧ Below R2.heap.size R2 X2 ∧ Has (bX2by) [.int .i64 a1, .int .u64 a0] X2)
  case first =>
    clear HBR2
    have ltt : ∀ n : Nat, n < n + 1 + 1 := fun n => by omega
    have lttt : ∀ n : Nat, n + 1 < n + 1 + 1 := fun n => by omega
    go_region_held3 (fun w' => w'.cell? ⟨w.heap.size, 0, none⟩ = some (.int .i64 a1) ∧ w'.cell? ⟨w.heap.size, 1, none⟩ = some (.int .u64 a0)) (first | (simp [*, go_sem]; done) | (simp [*, go_sem, World.cell?_alloc_past]; done))
      (first
        | (go_at_call 27; (with_reducible refine (K20.out _).mono ?_); rintro e w7 ⟨rfl, hb⟩; (first | (with_reducible (obtain ⟨hclw7, hfrw7⟩ := bcell_drew hb)) | (obtain ⟨hclw7, hfrw7⟩ := bcell hb)); have zw7_a : w.heap.size < w7.heap.size := (by first | omega | (have hz := hb.size; (try simp at hz); omega)); have yw7_a : w.heap.size < w7.heap.size + 1 := (by omega); have yyw7_a : w.heap.size < w7.heap.size + 1 + 1 := (by omega); (try have sw7_0 : R2.heap.size < w7.heap.size := (by first | omega | (have hz := hb.size; (try simp at hz); omega))); (try have syw7_0 : R2.heap.size < w7.heap.size + 1 := (by omega)); (try have stw7_0 : R2.heap.size + 1 < w7.heap.size := (by first | omega | (have hz := hb.size; (try simp at hz); omega))); have sxw7_0 : R2.heap.size ≤ w7.heap.size := (by first | omega | (have hz := hb.size; (try simp at hz); omega)); have HBw7 : Hid (Below R2.heap.size R2 w7) := (bl_trans (by repeat (first | with_reducible exact Below.refl _ _ | with_reducible exact Hid.out (by assumption) | with_reducible refine Below.setCell ?_ (by first | (simp; done) | omega | (simp <;> omega)) _ | with_reducible refine bl_al ?_ _ | with_reducible apply Below.drew)) hb); clear hb; clear K20)
        | (go_at_call 21; (with_reducible refine (K7.out _).mono ?_); rintro e w8 ⟨rfl, hb⟩; obtain ⟨hclw8, hfrw8⟩ := bcell hb; have zw8_a : w.heap.size < w8.heap.size := (by first | omega | (have hz := hb.size; (try simp at hz); omega)); have yw8_a : w.heap.size < w8.heap.size + 1 := (by omega); have yyw8_a : w.heap.size < w8.heap.size + 1 + 1 := (by omega); (try have sw8_0 : R2.heap.size < w8.heap.size := (by first | omega | (have hz := hb.size; (try simp at hz); omega))); (try have syw8_0 : R2.heap.size < w8.heap.size + 1 := (by omega)); (try have stw8_0 : R2.heap.size + 1 < w8.heap.size := (by first | omega | (have hz := hb.size; (try simp at hz); omega))); have sxw8_0 : R2.heap.size ≤ w8.heap.size := (by first | omega | (have hz := hb.size; (try simp at hz); omega)); (try have sw8_w7 : w7.heap.size < w8.heap.size := (by first | omega | (have hz := hb.size; (try simp at hz); omega))); (try have syw8_w7 : w7.heap.size < w8.heap.size + 1 := (by omega)); (try have stw8_w7 : w7.heap.size + 1 < w8.heap.size := (by first | omega | (have hz := hb.size; (try simp at hz); omega))); have sxw8_w7 : w7.heap.size ≤ w8.heap.size := (by first | omega | (have hz := hb.size; (try simp at hz); omega)); have HBw8 : Hid (Below R2.heap.size R2 w8) := (bl_trans (by repeat (first | with_reducible exact Below.refl _ _ | with_reducible exact Hid.out (by assumption) | with_reducible refine Below.setCell ?_ (by first | (simp; done) | omega | (simp <;> omega)) _ | with_reducible refine bl_al ?_ _ | with_reducible apply Below.drew)) hb); clear hb; clear K7))
    all_goals (rename_i hHeld; clear hHeld; go_wp2_with fail; go_meet; exact ⟨_, rfl, rfl, (by first | omega | (simp <;> omega)), (by repeat (first | with_reducible exact Below.refl _ _ | with_reducible exact Hid.out (by assumption) | with_reducible refine Below.setCell ?_ (by first | (simp; done) | omega | (simp <;> omega)) _ | with_reducible refine bl_al ?_ _ | with_reducible apply Below.drew)), Has.mk2 (by first | (simp <;> omega) | omega) (by simp [go_sem, *]) (by simp [go_sem, *])⟩)
  case rest =>
  obtain ⟨X2, hX2⟩ : ∃ X, X = wc := ⟨wc, rfl⟩
  subst hX2
  obtain ⟨bX2by, rfl, rfl, m_bX2by, hX, g_by⟩ := hcut
  have zX2_a : w.heap.size < X2.heap.size := Nat.lt_of_lt_of_le zR2_a hX.size
  have cX2_a_0 : X2.cell? ⟨w.heap.size, 0, none⟩ = some (.int .i64 a1) := by rw [(bcell hX).1 _ _ zR2_a]; exact cR2_a_0
  have cX2_a_1 : X2.cell? ⟨w.heap.size, 1, none⟩ = some (.int .u64 a0) := by rw [(bcell hX).1 _ _ zR2_a]; exact cR2_a_1
  have zX2_x : w3.heap.size < X2.heap.size := Nat.lt_of_lt_of_le zR2_x hX.size
  have cX2_x_0 : X2.cell? ⟨w3.heap.size, 0, none⟩ = some (.int .i64 x1) := by rw [(bcell hX).1 _ _ zR2_x]; exact cR2_x_0
  have cX2_x_1 : X2.cell? ⟨w3.heap.size, 1, none⟩ = some (.int .u64 x0) := by rw [(bcell hX).1 _ _ zR2_x]; exact cR2_x_1
  have zX2_y : w3.heap.size + 1 < X2.heap.size := Nat.lt_of_lt_of_le zR2_y hX.size
  have cX2_y_0 : X2.cell? ⟨w3.heap.size + 1, 0, none⟩ = some (.int .i64 y1) := by rw [(bcell hX).1 _ _ zR2_y]; exact cR2_y_0
  have cX2_y_1 : X2.cell? ⟨w3.heap.size + 1, 1, none⟩ = some (.int .u64 y0) := by rw [(bcell hX).1 _ _ zR2_y]; exact cR2_y_1
  have zX2_p : w4.heap.size < X2.heap.size := Nat.lt_of_lt_of_le zR2_p hX.size
  have cX2_p_0 : X2.cell? ⟨w4.heap.size, 0, none⟩ = some (.int .i64 p1) := by rw [(bcell hX).1 _ _ zR2_p]; exact cR2_p_0
  have cX2_p_1 : X2.cell? ⟨w4.heap.size, 1, none⟩ = some (.int .u64 p0) := by rw [(bcell hX).1 _ _ zR2_p]; exact cR2_p_1
  have zX2_one : bX1one < X2.heap.size := Nat.lt_of_lt_of_le zR2_one hX.size
  have cX2_one_0 : X2.cell? ⟨bX1one, 0, none⟩ = some (.int .i64 a1) := by rw [(bcell hX).1 _ _ zR2_one]; exact cR2_one_0
  have cX2_one_1 : X2.cell? ⟨bX1one, 1, none⟩ = some (.int .u64 a0) := by rw [(bcell hX).1 _ _ zR2_one]; exact cR2_one_1
  have zX2_by := g_by.1; have cX2_by_0 := g_by.2 0 _ rfl; have cX2_by_1 := g_by.2 1 _ rfl; clear g_by
  have HBX2 : Hid (Below w.heap.size w X2) := bl_trans HBR2.out hX
  clear hX
  clear zR2_a yR2_a yyR2_a cR2_a_0 cR2_a_1 zR2_x yR2_x yyR2_x cR2_x_0 cR2_x_1 zR2_y yR2_y yyR2_y cR2_y_0 cR2_y_1 zR2_p yR2_p yyR2_p cR2_p_0 cR2_p_1 zR2_one yR2_one yyR2_one cR2_one_0 cR2_one_1 HBR2 m_bX2by
  go_wp2_with fail
  (with_reducible refine (K8.out _).mono ?_); rintro e w9 ⟨rfl, hb⟩; obtain ⟨hclw9, hfrw9⟩ := bcell hb; have zw9_a : w.heap.size < w9.heap.size := (by first | omega | (have hz := hb.size; (try simp at hz); omega)); have yw9_a : w.heap.size < w9.heap.size + 1 := (by omega); have yyw9_a : w.heap.size < w9.heap.size + 1 + 1 := (by omega); have zw9_x : w3.heap.size < w9.heap.size := (by first | omega | (have hz := hb.size; (try simp at hz); omega)); have yw9_x : w3.heap.size < w9.heap.size + 1 := (by omega); have yyw9_x : w3.heap.size < w9.heap.size + 1 + 1 := (by omega); have zw9_y : w3.heap.size + 1 < w9.heap.size := (by first | omega | (have hz := hb.size; (try simp at hz); omega)); have yw9_y : w3.heap.size + 1 < w9.heap.size + 1 := (by omega); have yyw9_y : w3.heap.size + 1 < w9.heap.size + 1 + 1 := (by omega); have zw9_p : w4.heap.size < w9.heap.size := (by first | omega | (have hz := hb.size; (try simp at hz); omega)); have yw9_p : w4.heap.size < w9.heap.size + 1 := (by omega); have yyw9_p : w4.heap.size < w9.heap.size + 1 + 1 := (by omega); have zw9_one : bX1one < w9.heap.size := (by first | omega | (have hz := hb.size; (try simp at hz); omega)); have yw9_one : bX1one < w9.heap.size + 1 := (by omega); have yyw9_one : bX1one < w9.heap.size + 1 + 1 := (by omega); have zw9_by : bX2by < w9.heap.size := (by first | omega | (have hz := hb.size; (try simp at hz); omega)); have yw9_by : bX2by < w9.heap.size + 1 := (by omega); have yyw9_by : bX2by < w9.heap.size + 1 + 1 := (by omega); have sxw9_0 : X2.heap.size ≤ w9.heap.size := (by first | omega | (have hz := hb.size; (try simp at hz); omega)); have HBw9 : Hid (Below w.heap.size w w9) := (bl_trans (by repeat (first | with_reducible exact Below.refl _ _ | with_reducible exact Hid.out (by assumption) | with_reducible refine Below.setCell ?_ (by first | (simp; done) | omega | (simp <;> omega)) _ | with_reducible refine bl_al ?_ _ | with_reducible apply Below.drew)) hb); clear hb
  go_upto_region 8 with fail
  refine name_world (P := fun W => Code.wp _ _ _ _ W) _ (fun R3 hR3 => ?_)
  have zR3_a : w.heap.size < R3.heap.size := by rw [hR3]; first | omega | (simp <;> omega)
  have yR3_a : w.heap.size < R3.heap.size + 1 := by omega
  have yyR3_a : w.heap.size < R3.heap.size + 1 + 1 := by omega
  have cR3_a_0 : R3.cell? ⟨w.heap.size, 0, none⟩ = some (.int .i64 a1) := by rw [hR3]; first | assumption | (simp [go_sem, *]; done)
  have cR3_a_1 : R3.cell? ⟨w.heap.size, 1, none⟩ = some (.int .u64 a0) := by rw [hR3]; first | assumption | (simp [go_sem, *]; done)
  have zR3_x : w3.heap.size < R3.heap.size := by rw [hR3]; first | omega | (simp <;> omega)
  have yR3_x : w3.heap.size < R3.heap.size + 1 := by omega
  have yyR3_x : w3.heap.size < R3.heap.size + 1 + 1 := by omega
  have cR3_x_0 : R3.cell? ⟨w3.heap.size, 0, none⟩ = some (.int .i64 x1) := by rw [hR3]; first | assumption | (simp [go_sem, *]; done)
  have cR3_x_1 : R3.cell? ⟨w3.heap.size, 1, none⟩ = some (.int .u64 x0) := by rw [hR3]; first | assumption | (simp [go_sem, *]; done)
  have zR3_y : w3.heap.size + 1 < R3.heap.size := by rw [hR3]; first | omega | (simp <;> omega)
  have yR3_y : w3.heap.size + 1 < R3.heap.size + 1 := by omega
  have yyR3_y : w3.heap.size + 1 < R3.heap.size + 1 + 1 := by omega
  have cR3_y_0 : R3.cell? ⟨w3.heap.size + 1, 0, none⟩ = some (.int .i64 y1) := by rw [hR3]; first | assumption | (simp [go_sem, *]; done)
  have cR3_y_1 : R3.cell? ⟨w3.heap.size + 1, 1, none⟩ = some (.int .u64 y0) := by rw [hR3]; first | assumption | (simp [go_sem, *]; done)
  have zR3_p : w4.heap.size < R3.heap.size := by rw [hR3]; first | omega | (simp <;> omega)
  have yR3_p : w4.heap.size < R3.heap.size + 1 := by omega
  have yyR3_p : w4.heap.size < R3.heap.size + 1 + 1 := by omega
  have cR3_p_0 : R3.cell? ⟨w4.heap.size, 0, none⟩ = some (.int .i64 p1) := by rw [hR3]; first | assumption | (simp [go_sem, *]; done)
  have cR3_p_1 : R3.cell? ⟨w4.heap.size, 1, none⟩ = some (.int .u64 p0) := by rw [hR3]; first | assumption | (simp [go_sem, *]; done)
  have zR3_one : bX1one < R3.heap.size := by rw [hR3]; first | omega | (simp <;> omega)
  have yR3_one : bX1one < R3.heap.size + 1 := by omega
  have yyR3_one : bX1one < R3.heap.size + 1 + 1 := by omega
  have cR3_one_0 : R3.cell? ⟨bX1one, 0, none⟩ = some (.int .i64 a1) := by rw [hR3]; first | assumption | (simp [go_sem, *]; done)
  have cR3_one_1 : R3.cell? ⟨bX1one, 1, none⟩ = some (.int .u64 a0) := by rw [hR3]; first | assumption | (simp [go_sem, *]; done)
  have zR3_by : bX2by < R3.heap.size := by rw [hR3]; first | omega | (simp <;> omega)
  have yR3_by : bX2by < R3.heap.size + 1 := by omega
  have yyR3_by : bX2by < R3.heap.size + 1 + 1 := by omega
  have cR3_by_0 : R3.cell? ⟨bX2by, 0, none⟩ = some (.int .i64 a1) := by rw [hR3]; first | assumption | (simp [go_sem, *]; done)
  have cR3_by_1 : R3.cell? ⟨bX2by, 1, none⟩ = some (.int .u64 a0) := by rw [hR3]; first | assumption | (simp [go_sem, *]; done)
  have zR3_zz : w9.heap.size < R3.heap.size := by rw [hR3]; first | omega | (simp <;> omega)
  have yR3_zz : w9.heap.size < R3.heap.size + 1 := by omega
  have yyR3_zz : w9.heap.size < R3.heap.size + 1 + 1 := by omega
  have cR3_zz_0 : R3.cell? ⟨w9.heap.size, 0, none⟩ = some (.int .i64 0) := by rw [hR3]; first | assumption | (simp [go_sem, *]; done)
  have cR3_zz_1 : R3.cell? ⟨w9.heap.size, 1, none⟩ = some (.int .u64 0) := by rw [hR3]; first | assumption | (simp [go_sem, *]; done)
  have HBR3 : Hid (Below w.heap.size w R3) := by rw [hR3]; show Below _ _ _; exact (by repeat (first | with_reducible exact Below.refl _ _ | with_reducible exact Hid.out (by assumption) | with_reducible refine Below.setCell ?_ (by first | (simp; done) | omega | (simp <;> omega)) _ | with_reducible refine bl_al ?_ _ | with_reducible apply Below.drew))
  clear hR3
  clear HBX2 zX2_a cX2_a_0 cX2_a_1 zX2_x cX2_x_0 cX2_x_1 zX2_y cX2_y_0 cX2_y_1 zX2_p cX2_p_0 cX2_p_1 zX2_one cX2_one_0 cX2_one_1 zX2_by cX2_by_0 cX2_by_1 zw9_a yw9_a yyw9_a zw9_x yw9_x yyw9_x zw9_y yw9_y yyw9_y zw9_p yw9_p yyw9_p zw9_one yw9_one yyw9_one zw9_by yw9_by yyw9_by sxw9_0 hclw9 hfrw9 HBw9
  refine wp_region_held_drew (S := fun w' => w'.cell? ⟨w.heap.size, 0, none⟩ = some (.int .i64 a1) ∧ w'.cell? ⟨w.heap.size, 1, none⟩ = some (.int .u64 a0) ∧ w'.cell? ⟨w4.heap.size, 0, none⟩ = some (.int .i64 p1) ∧ w'.cell? ⟨w4.heap.size, 1, none⟩ = some (.int .u64 p0) ∧ w'.cell? ⟨bX1one, 0, none⟩ = some (.int .i64 a1) ∧ w'.cell? ⟨bX1one, 1, none⟩ = some (.int .u64 a0) ∧ w'.cell? ⟨bX2by, 0, none⟩ = some (.int .i64 a1) ∧ w'.cell? ⟨bX2by, 1, none⟩ = some (.int .u64 a0)) (by kernel_rfl) ?_ (fun hHeld => ?_)
  · (try dsimp only); (first | (simp [*, go_sem]; done) | (simp [*, go_sem, World.cell?_alloc_past]; done))
  refine wpAnyH_take (i := 0) (oi := _) (v := ?_) (by simp only [List.getElem?_toArray, List.getElem?_cons_zero]; rfl) (by kernel_rfl) (by kernel_rfl) (by kernel_rfl) (by exact fun _ _ _ h => h) (Or.inl ⟨by rfl, ?_⟩) (by assumption) ?_
  rotate_left 1
  · (intro w hSw; (try dsimp only at hSw); go_simp; try with_reducible rfl)
  try simp only [Act.put, List.setIfInBounds_toArray, List.set_cons_zero, List.set_cons_succ]
  refine wpAnyH_take (i := 1) (oi := _) (v := ?_) (by simp only [List.getElem?_toArray, List.getElem?_cons_succ, List.getElem?_cons_zero]; rfl) (by kernel_rfl) (by kernel_rfl) (by kernel_rfl) (by exact fun _ _ _ h => h) (Or.inl ⟨by rfl, ?_⟩) (by assumption) ?_
  rotate_left 1
  · (intro w hSw; (try dsimp only at hSw); go_simp; try with_reducible rfl)
  try simp only [Act.put, List.setIfInBounds_toArray, List.set_cons_zero, List.set_cons_succ]
  refine wpAnyH_take (i := 2) (oi := _) (v := ?_) (by simp only [List.getElem?_toArray, List.getElem?_cons_succ, List.getElem?_cons_zero]; rfl) (by kernel_rfl) (by kernel_rfl) (by kernel_rfl) (by exact fun _ _ _ h => h) (Or.inl ⟨by rfl, ?_⟩) (by assumption) ?_
  rotate_left 1
  · (intro w hSw; (try dsimp only at hSw); go_simp; try with_reducible rfl)
  try simp only [Act.put, List.setIfInBounds_toArray, List.set_cons_zero, List.set_cons_succ]
  refine wpAnyH_take (i := 3) (oi := _) (v := ?_) (by simp only [List.getElem?_toArray, List.getElem?_cons_succ, List.getElem?_cons_zero]; rfl) (by kernel_rfl) (by kernel_rfl) (by kernel_rfl) (by exact fun _ _ _ h => h) (Or.inl ⟨by rfl, ?_⟩) (by assumption) ?_
  rotate_left 1
  · (intro w hSw; (try dsimp only at hSw); go_simp; try with_reducible rfl)
  try simp only [Act.put, List.setIfInBounds_toArray, List.set_cons_zero, List.set_cons_succ]
  refine wpAnyH_take (i := 4) (oi := _) (v := ?_) (by simp only [List.getElem?_toArray, List.getElem?_cons_succ, List.getElem?_cons_zero]; rfl) (by kernel_rfl) (by kernel_rfl) (by kernel_rfl) (by exact fun _ _ _ h => h) (Or.inl ⟨by rfl, ?_⟩) (by assumption) ?_
  rotate_left 1
  · (intro w hSw; (try dsimp only at hSw); go_simp; try with_reducible rfl)
  try simp only [Act.put, List.setIfInBounds_toArray, List.set_cons_zero, List.set_cons_succ]
  refine wpAnyH_take (i := 5) (oi := _) (v := ?_) (by simp only [List.getElem?_toArray, List.getElem?_cons_succ, List.getElem?_cons_zero]; rfl) (by kernel_rfl) (by kernel_rfl) (by kernel_rfl) (by exact fun _ _ _ h => h) (Or.inl ⟨by rfl, ?_⟩) (by assumption) ?_
  rotate_left 1
  · (intro w hSw; (try dsimp only at hSw); go_simp; try with_reducible rfl)
  try simp only [Act.put, List.setIfInBounds_toArray, List.set_cons_zero, List.set_cons_succ]
  refine wpAnyH_ready (rs := [6]) (by kernel_rfl) (by simp) ?_
  refine AllReadyH.cons (o := _) (by simp only [List.getElem?_toArray, List.getElem?_cons_succ, List.getElem?_cons_zero]; rfl) (fun K hK => ?_) AllReadyH.nil
  go_simp
  (go_at_call 27; (with_reducible refine (K9.out _).mono ?_); rintro e w10 ⟨rfl, hb⟩; (first | (with_reducible (obtain ⟨hclw10, hfrw10⟩ := bcell_drew hb)) | (obtain ⟨hclw10, hfrw10⟩ := bcell hb)); have zw10_a : w.heap.size < w10.heap.size := (by first | omega | (have hz := hb.size; (try simp at hz); omega)); have yw10_a : w.heap.size < w10.heap.size + 1 := (by omega); have yyw10_a : w.heap.size < w10.heap.size + 1 + 1 := (by omega); have zw10_x : w3.heap.size < w10.heap.size := (by first | omega | (have hz := hb.size; (try simp at hz); omega)); have yw10_x : w3.heap.size < w10.heap.size + 1 := (by omega); have yyw10_x : w3.heap.size < w10.heap.size + 1 + 1 := (by omega); have zw10_y : w3.heap.size + 1 < w10.heap.size := (by first | omega | (have hz := hb.size; (try simp at hz); omega)); have yw10_y : w3.heap.size + 1 < w10.heap.size + 1 := (by omega); have yyw10_y : w3.heap.size + 1 < w10.heap.size + 1 + 1 := (by omega); have zw10_p : w4.heap.size < w10.heap.size := (by first | omega | (have hz := hb.size; (try simp at hz); omega)); have yw10_p : w4.heap.size < w10.heap.size + 1 := (by omega); have yyw10_p : w4.heap.size < w10.heap.size + 1 + 1 := (by omega); have zw10_one : bX1one < w10.heap.size := (by first | omega | (have hz := hb.size; (try simp at hz); omega)); have yw10_one : bX1one < w10.heap.size + 1 := (by omega); have yyw10_one : bX1one < w10.heap.size + 1 + 1 := (by omega); have zw10_by : bX2by < w10.heap.size := (by first | omega | (have hz := hb.size; (try simp at hz); omega)); have yw10_by : bX2by < w10.heap.size + 1 := (by omega); have yyw10_by : bX2by < w10.heap.size + 1 + 1 := (by omega); have sxw10_0 : R3.heap.size ≤ w10.heap.size := (by first | omega | (have hz := hb.size; (try simp at hz); omega)); have HBw10 : Hid (Below w.heap.size w w10) := (bl_trans (by repeat (first | with_reducible exact Below.refl _ _ | with_reducible exact Hid.out (by assumption) | with_reducible refine Below.setCell ?_ (by first | (simp; done) | omega | (simp <;> omega)) _ | with_reducible refine bl_al ?_ _ | with_reducible apply Below.drew)) hb); clear hb; clear K9)
  try go_wp2_with fail
  refine hK.out _ _ ?_ (fun hHeldN => ?_)
  · (try dsimp only); (first | (simp [*, go_sem]; done) | (simp [*, go_sem, World.cell?_alloc_past]; done))
  clear hK K hHeld; have hHeld := hHeldN; clear hHeldN
  try simp only [Act.put, List.setIfInBounds_toArray, List.set_cons_zero, List.set_cons_succ]
  refine wpAnyH_take (i := 7) (oi := _) (v := ?_) (by simp only [List.getElem?_toArray, List.getElem?_cons_succ, List.getElem?_cons_zero]; rfl) (by kernel_rfl) (by kernel_rfl) (by kernel_rfl) (by exact fun _ _ _ h => h) (Or.inl ⟨by rfl, ?_⟩) (by assumption) ?_
  rotate_left 1
  · (intro w hSw; (try dsimp only at hSw); go_simp; try with_reducible rfl)
  try simp only [Act.put, List.setIfInBounds_toArray, List.set_cons_zero, List.set_cons_succ]
  refine wpAnyH_take (i := 8) (oi := _) (v := ?_) (by simp only [List.getElem?_toArray, List.getElem?_cons_succ, List.getElem?_cons_zero]; rfl) (by kernel_rfl) (by kernel_rfl) (by kernel_rfl) (by exact fun _ _ _ h => h) (Or.inl ⟨by rfl, ?_⟩) (by assumption) ?_
  rotate_left 1
  · (intro w hSw; (try dsimp only at hSw); go_simp; try with_reducible rfl)
  try simp only [Act.put, List.setIfInBounds_toArray, List.set_cons_zero, List.set_cons_succ]
  refine wpAnyH_take (i := 9) (oi := _) (v := ?_) (by simp only [List.getElem?_toArray, List.getElem?_cons_succ, List.getElem?_cons_zero]; rfl) (by kernel_rfl) (by kernel_rfl) (by kernel_rfl) (by exact fun _ _ _ h => h) (Or.inl ⟨by rfl, ?_⟩) (by assumption) ?_
  rotate_left 1
  · (intro w hSw; (try dsimp only at hSw); go_simp; try with_reducible rfl)
  try simp only [Act.put, List.setIfInBounds_toArray, List.set_cons_zero, List.set_cons_succ]
  refine wpAnyH_take (i := 10) (oi := _) (v := ?_) (by simp only [List.getElem?_toArray, List.getElem?_cons_succ, List.getElem?_cons_zero]; rfl) (by kernel_rfl) (by kernel_rfl) (by kernel_rfl) (by exact fun _ _ _ h => h) (Or.inl ⟨by rfl, ?_⟩) (by assumption) ?_
  rotate_left 1
  · (intro w hSw; (try dsimp only at hSw); go_simp; try with_reducible rfl)
  try simp only [Act.put, List.setIfInBounds_toArray, List.set_cons_zero, List.set_cons_succ]
  refine wpAnyH_take (i := 11) (oi := _) (v := ?_) (by simp only [List.getElem?_toArray, List.getElem?_cons_succ, List.getElem?_cons_zero]; rfl) (by kernel_rfl) (by kernel_rfl) (by kernel_rfl) (by exact fun _ _ _ h => h) (Or.inl ⟨by rfl, ?_⟩) (by assumption) ?_
  rotate_left 1
  · (intro w hSw; (try dsimp only at hSw); go_simp; try with_reducible rfl)
  try simp only [Act.put, List.setIfInBounds_toArray, List.set_cons_zero, List.set_cons_succ]
  refine wpAnyH_take (i := 12) (oi := _) (v := ?_) (by simp only [List.getElem?_toArray, List.getElem?_cons_succ, List.getElem?_cons_zero]; rfl) (by kernel_rfl) (by kernel_rfl) (by kernel_rfl) (by exact fun _ _ _ h => h) (Or.inl ⟨by rfl, ?_⟩) (by assumption) ?_
  rotate_left 1
  · (intro w hSw; (try dsimp only at hSw); go_simp; try with_reducible rfl)
  try simp only [Act.put, List.setIfInBounds_toArray, List.set_cons_zero, List.set_cons_succ]
  refine wpAnyH_take (i := 13) (oi := _) (v := ?_) (by simp only [List.getElem?_toArray, List.getElem?_cons_succ, List.getElem?_cons_zero]; rfl) (by kernel_rfl) (by kernel_rfl) (by kernel_rfl) (by exact fun _ _ _ h => h) (Or.inl ⟨by rfl, ?_⟩) (by assumption) ?_
  rotate_left 1
  · (intro w hSw; (try dsimp only at hSw); go_simp; try with_reducible rfl)
  try simp only [Act.put, List.setIfInBounds_toArray, List.set_cons_zero, List.set_cons_succ]
  refine wpAnyH_take (i := 14) (oi := _) (v := ?_) (by simp only [List.getElem?_toArray, List.getElem?_cons_succ, List.getElem?_cons_zero]; rfl) (by kernel_rfl) (by kernel_rfl) (by kernel_rfl) (by exact fun _ _ _ h => h) (Or.inl ⟨by rfl, ?_⟩) (by assumption) ?_
  rotate_left 1
  · (intro w hSw; (try dsimp only at hSw); go_simp; try with_reducible rfl)
  try simp only [Act.put, List.setIfInBounds_toArray, List.set_cons_zero, List.set_cons_succ]
  refine wpAnyH_take (i := 15) (oi := _) (v := ?_) (by simp only [List.getElem?_toArray, List.getElem?_cons_succ, List.getElem?_cons_zero]; rfl) (by kernel_rfl) (by kernel_rfl) (by kernel_rfl) (by exact fun _ _ _ h => h) (Or.inl ⟨by rfl, ?_⟩) (by assumption) ?_
  rotate_left 1
  · (intro w hSw; (try dsimp only at hSw); go_simp; try with_reducible rfl)
  try simp only [Act.put, List.setIfInBounds_toArray, List.set_cons_zero, List.set_cons_succ]
  refine wpAnyH_take (i := 16) (oi := _) (v := ?_) (by simp only [List.getElem?_toArray, List.getElem?_cons_succ, List.getElem?_cons_zero]; rfl) (by kernel_rfl) (by kernel_rfl) (by kernel_rfl) (by exact fun _ _ _ h => h) (Or.inl ⟨by rfl, ?_⟩) (by assumption) ?_
  rotate_left 1
  · (intro w hSw; (try dsimp only at hSw); go_simp; try with_reducible rfl)
  try simp only [Act.put, List.setIfInBounds_toArray, List.set_cons_zero, List.set_cons_succ]
  refine wpAnyH_take (i := 17) (oi := _) (v := ?_) (by simp only [List.getElem?_toArray, List.getElem?_cons_succ, List.getElem?_cons_zero]; rfl) (by kernel_rfl) (by kernel_rfl) (by kernel_rfl) (by exact fun _ _ _ h => h) (Or.inl ⟨by rfl, ?_⟩) (by assumption) ?_
  rotate_left 1
  · (intro w hSw; (try dsimp only at hSw); go_simp; try with_reducible rfl)
  try simp only [Act.put, List.setIfInBounds_toArray, List.set_cons_zero, List.set_cons_succ]
  refine wpAnyH_take (i := 18) (oi := _) (v := ?_) (by simp only [List.getElem?_toArray, List.getElem?_cons_succ, List.getElem?_cons_zero]; rfl) (by kernel_rfl) (by kernel_rfl) (by kernel_rfl) (by exact fun _ _ _ h => h) (Or.inl ⟨by rfl, ?_⟩) (by assumption) ?_
  rotate_left 1
  · (intro w hSw; (try dsimp only at hSw); go_simp; try with_reducible rfl)
  try simp only [Act.put, List.setIfInBounds_toArray, List.set_cons_zero, List.set_cons_succ]
  refine wpAnyH_take (i := 19) (oi := _) (v := ?_) (by simp only [List.getElem?_toArray, List.getElem?_cons_succ, List.getElem?_cons_zero]; rfl) (by kernel_rfl) (by kernel_rfl) (by kernel_rfl) (by exact fun _ _ _ h => h) (Or.inl ⟨by rfl, ?_⟩) (by assumption) ?_
  rotate_left 1
  · (intro w hSw; (try dsimp only at hSw); go_simp; try with_reducible rfl)
  try simp only [Act.put, List.setIfInBounds_toArray, List.set_cons_zero, List.set_cons_succ]
  refine wpAnyH_take (i := 21) (oi := _) (v := ?_) (by simp only [List.getElem?_toArray, List.getElem?_cons_succ, List.getElem?_cons_zero]; rfl) (by kernel_rfl) (by kernel_rfl) (by kernel_rfl) (by exact fun _ _ _ h => h) (Or.inl ⟨by rfl, ?_⟩) (by assumption) ?_
  rotate_left 1
  · (intro w hSw; (try dsimp only at hSw); go_simp; try with_reducible rfl)
  try simp only [Act.put, List.setIfInBounds_toArray, List.set_cons_zero, List.set_cons_succ]
  refine wpAnyH_take (i := 24) (oi := _) (v := ?_) (by simp only [List.getElem?_toArray, List.getElem?_cons_succ, List.getElem?_cons_zero]; rfl) (by kernel_rfl) (by kernel_rfl) (by kernel_rfl) (by exact fun _ _ _ h => h) (Or.inl ⟨by rfl, ?_⟩) (by assumption) ?_
  rotate_left 1
  · (intro w hSw; (try dsimp only at hSw); go_simp; try with_reducible rfl)
  try simp only [Act.put, List.setIfInBounds_toArray, List.set_cons_zero, List.set_cons_succ]
  refine wpAnyH_ready (rs := [20]) (by kernel_rfl) (by simp) ?_
  refine AllReadyH.cons (o := _) (by simp only [List.getElem?_toArray, List.getElem?_cons_succ, List.getElem?_cons_zero]; rfl) (fun K hK => ?_) AllReadyH.nil
  go_simp
  (go_at_call 39; (with_reducible refine (K10.out _).mono ?_); rintro e w11 ⟨rfl, hb⟩; obtain ⟨hclw11, hfrw11⟩ := bcell hb; have zw11_a : w.heap.size < w11.heap.size := (by first | omega | (have hz := hb.size; (try simp at hz); omega)); have yw11_a : w.heap.size < w11.heap.size + 1 := (by omega); have yyw11_a : w.heap.size < w11.heap.size + 1 + 1 := (by omega); have zw11_x : w3.heap.size < w11.heap.size := (by first | omega | (have hz := hb.size; (try simp at hz); omega)); have yw11_x : w3.heap.size < w11.heap.size + 1 := (by omega); have yyw11_x : w3.heap.size < w11.heap.size + 1 + 1 := (by omega); have zw11_y : w3.heap.size + 1 < w11.heap.size := (by first | omega | (have hz := hb.size; (try simp at hz); omega)); have yw11_y : w3.heap.size + 1 < w11.heap.size + 1 := (by omega); have yyw11_y : w3.heap.size + 1 < w11.heap.size + 1 + 1 := (by omega); have zw11_p : w4.heap.size < w11.heap.size := (by first | omega | (have hz := hb.size; (try simp at hz); omega)); have yw11_p : w4.heap.size < w11.heap.size + 1 := (by omega); have yyw11_p : w4.heap.size < w11.heap.size + 1 + 1 := (by omega); have zw11_one : bX1one < w11.heap.size := (by first | omega | (have hz := hb.size; (try simp at hz); omega)); have yw11_one : bX1one < w11.heap.size + 1 := (by omega); have yyw11_one : bX1one < w11.heap.size + 1 + 1 := (by omega); have zw11_by : bX2by < w11.heap.size := (by first | omega | (have hz := hb.size; (try simp at hz); omega)); have yw11_by : bX2by < w11.heap.size + 1 := (by omega); have yyw11_by : bX2by < w11.heap.size + 1 + 1 := (by omega); have sxw11_0 : R3.heap.size ≤ w11.heap.size := (by first | omega | (have hz := hb.size; (try simp at hz); omega)); have sxw11_w10 : w10.heap.size ≤ w11.heap.size := (by first | omega | (have hz := hb.size; (try simp at hz); omega)); have HBw11 : Hid (Below w.heap.size w w11) := (bl_trans (by repeat (first | with_reducible exact Below.refl _ _ | with_reducible exact Hid.out (by assumption) | with_reducible refine Below.setCell ?_ (by first | (simp; done) | omega | (simp <;> omega)) _ | with_reducible refine bl_al ?_ _ | with_reducible apply Below.drew)) hb); clear hb; clear K10)
  try go_wp2_with fail
  refine hK.out _ _ ?_ (fun hHeldN => ?_)
  · (try dsimp only); (first | (simp [*, go_sem]; done) | (simp [*, go_sem, World.cell?_alloc_past]; done))
  clear hK K hHeld; have hHeld := hHeldN; clear hHeldN
  try simp only [Act.put, List.setIfInBounds_toArray, List.set_cons_zero, List.set_cons_succ]
  refine wpAnyH_ready (rs := [22]) (by kernel_rfl) (by simp) ?_
  refine AllReadyH.cons (o := _) (by simp only [List.getElem?_toArray, List.getElem?_cons_succ, List.getElem?_cons_zero]; rfl) (fun K hK => ?_) AllReadyH.nil
  go_simp
  (go_at_call 39; (with_reducible refine (K21.out _).mono ?_); rintro e w12 ⟨rfl, hb⟩; obtain ⟨hclw12, hfrw12⟩ := bcell hb; have zw12_a : w.heap.size < w12.heap.size := (by first | omega | (have hz := hb.size; (try simp at hz); omega)); have yw12_a : w.heap.size < w12.heap.size + 1 := (by omega); have yyw12_a : w.heap.size < w12.heap.size + 1 + 1 := (by omega); have zw12_x : w3.heap.size < w12.heap.size := (by first | omega | (have hz := hb.size; (try simp at hz); omega)); have yw12_x : w3.heap.size < w12.heap.size + 1 := (by omega); have yyw12_x : w3.heap.size < w12.heap.size + 1 + 1 := (by omega); have zw12_y : w3.heap.size + 1 < w12.heap.size := (by first | omega | (have hz := hb.size; (try simp at hz); omega)); have yw12_y : w3.heap.size + 1 < w12.heap.size + 1 := (by omega); have yyw12_y : w3.heap.size + 1 < w12.heap.size + 1 + 1 := (by omega); have zw12_p : w4.heap.size < w12.heap.size := (by first | omega | (have hz := hb.size; (try simp at hz); omega)); have yw12_p : w4.heap.size < w12.heap.size + 1 := (by omega); have yyw12_p : w4.heap.size < w12.heap.size + 1 + 1 := (by omega); have zw12_one : bX1one < w12.heap.size := (by first | omega | (have hz := hb.size; (try simp at hz); omega)); have yw12_one : bX1one < w12.heap.size + 1 := (by omega); have yyw12_one : bX1one < w12.heap.size + 1 + 1 := (by omega); have zw12_by : bX2by < w12.heap.size := (by first | omega | (have hz := hb.size; (try simp at hz); omega)); have yw12_by : bX2by < w12.heap.size + 1 := (by omega); have yyw12_by : bX2by < w12.heap.size + 1 + 1 := (by omega); have sxw12_0 : R3.heap.size ≤ w12.heap.size := (by first | omega | (have hz := hb.size; (try simp at hz); omega)); have sxw12_w10 : w10.heap.size ≤ w12.heap.size := (by first | omega | (have hz := hb.size; (try simp at hz); omega)); have sxw12_w11 : w11.heap.size ≤ w12.heap.size := (by first | omega | (have hz := hb.size; (try simp at hz); omega)); have HBw12 : Hid (Below w.heap.size w w12) := (bl_trans (by repeat (first | with_reducible exact Below.refl _ _ | with_reducible exact Hid.out (by assumption) | with_reducible refine Below.setCell ?_ (by first | (simp; done) | omega | (simp <;> omega)) _ | with_reducible refine bl_al ?_ _ | with_reducible apply Below.drew)) hb); clear hb; clear K21)
  try go_wp2_with fail
  refine hK.out _ _ ?_ (fun hHeldN => ?_)
  · (try dsimp only); (first | (simp [*, go_sem]; done) | (simp [*, go_sem, World.cell?_alloc_past]; done))
  clear hK K hHeld; have hHeld := hHeldN; clear hHeldN
  try simp only [Act.put, List.setIfInBounds_toArray, List.set_cons_zero, List.set_cons_succ]
  refine wpAnyH_take (i := 23) (oi := _) (v := ?_) (by simp only [List.getElem?_toArray, List.getElem?_cons_succ, List.getElem?_cons_zero]; rfl) (by kernel_rfl) (by kernel_rfl) (by kernel_rfl) (by exact fun _ _ _ h => h) (Or.inl ⟨by rfl, ?_⟩) (by assumption) ?_
  rotate_left 1
  · (intro w hSw; (try dsimp only at hSw); go_simp; try with_reducible rfl)
  try simp only [Act.put, List.setIfInBounds_toArray, List.set_cons_zero, List.set_cons_succ]
  refine wpAnyH_ready (rs := [25]) (by kernel_rfl) (by simp) ?_
  refine AllReadyH.cons (o := _) (by simp only [List.getElem?_toArray, List.getElem?_cons_succ, List.getElem?_cons_zero]; rfl) (fun K hK => ?_) AllReadyH.nil
  go_simp
  (go_at_call 39; (with_reducible refine (K22.out _).mono ?_); rintro e w13 ⟨rfl, hb⟩; obtain ⟨hclw13, hfrw13⟩ := bcell hb; have zw13_a : w.heap.size < w13.heap.size := (by first | omega | (have hz := hb.size; (try simp at hz); omega)); have yw13_a : w.heap.size < w13.heap.size + 1 := (by omega); have yyw13_a : w.heap.size < w13.heap.size + 1 + 1 := (by omega); have zw13_x : w3.heap.size < w13.heap.size := (by first | omega | (have hz := hb.size; (try simp at hz); omega)); have yw13_x : w3.heap.size < w13.heap.size + 1 := (by omega); have yyw13_x : w3.heap.size < w13.heap.size + 1 + 1 := (by omega); have zw13_y : w3.heap.size + 1 < w13.heap.size := (by first | omega | (have hz := hb.size; (try simp at hz); omega)); have yw13_y : w3.heap.size + 1 < w13.heap.size + 1 := (by omega); have yyw13_y : w3.heap.size + 1 < w13.heap.size + 1 + 1 := (by omega); have zw13_p : w4.heap.size < w13.heap.size := (by first | omega | (have hz := hb.size; (try simp at hz); omega)); have yw13_p : w4.heap.size < w13.heap.size + 1 := (by omega); have yyw13_p : w4.heap.size < w13.heap.size + 1 + 1 := (by omega); have zw13_one : bX1one < w13.heap.size := (by first | omega | (have hz := hb.size; (try simp at hz); omega)); have yw13_one : bX1one < w13.heap.size + 1 := (by omega); have yyw13_one : bX1one < w13.heap.size + 1 + 1 := (by omega); have zw13_by : bX2by < w13.heap.size := (by first | omega | (have hz := hb.size; (try simp at hz); omega)); have yw13_by : bX2by < w13.heap.size + 1 := (by omega); have yyw13_by : bX2by < w13.heap.size + 1 + 1 := (by omega); have sxw13_0 : R3.heap.size ≤ w13.heap.size := (by first | omega | (have hz := hb.size; (try simp at hz); omega)); have sxw13_w10 : w10.heap.size ≤ w13.heap.size := (by first | omega | (have hz := hb.size; (try simp at hz); omega)); have sxw13_w11 : w11.heap.size ≤ w13.heap.size := (by first | omega | (have hz := hb.size; (try simp at hz); omega)); have sxw13_w12 : w12.heap.size ≤ w13.heap.size := (by first | omega | (have hz := hb.size; (try simp at hz); omega)); have HBw13 : Hid (Below w.heap.size w w13) := (bl_trans (by repeat (first | with_reducible exact Below.refl _ _ | with_reducible exact Hid.out (by assumption) | with_reducible refine Below.setCell ?_ (by first | (simp; done) | omega | (simp <;> omega)) _ | with_reducible refine bl_al ?_ _ | with_reducible apply Below.drew)) hb); clear hb; clear K22)
  try go_wp2_with fail
  refine hK.out _ _ ?_ (fun hHeldN => ?_)
  · (try dsimp only); (first | (simp [*, go_sem]; done) | (simp [*, go_sem, World.cell?_alloc_past]; done))
  clear hK K hHeld; have hHeld := hHeldN; clear hHeldN
  try simp only [Act.put, List.setIfInBounds_toArray, List.set_cons_zero, List.set_cons_succ]
  refine wpAnyH_take (i := 26) (oi := _) (v := ?_) (by simp only [List.getElem?_toArray, List.getElem?_cons_succ, List.getElem?_cons_zero]; rfl) (by kernel_rfl) (by kernel_rfl) (by kernel_rfl) (by exact fun _ _ _ h => h) (Or.inl ⟨by rfl, ?_⟩) (by assumption) ?_
  rotate_left 1
  · (intro w hSw; (try dsimp only at hSw); go_simp; try with_reducible rfl)
  try simp only [Act.put, List.setIfInBounds_toArray, List.set_cons_zero, List.set_cons_succ]
  refine wpAnyH_take (i := 27) (oi := _) (v := ?_) (by simp only [List.getElem?_toArray, List.getElem?_cons_succ, List.getElem?_cons_zero]; rfl) (by kernel_rfl) (by kernel_rfl) (by kernel_rfl) (by exact fun _ _ _ h => h) (Or.inl ⟨by rfl, ?_⟩) (by assumption) ?_
  rotate_left 1
  · (intro w hSw; (try dsimp only at hSw); go_simp; try with_reducible rfl)
  try simp only [Act.put, List.setIfInBounds_toArray, List.set_cons_zero, List.set_cons_succ]
  refine wpAnyH_take (i := 28) (oi := _) (v := ?_) (by simp only [List.getElem?_toArray, List.getElem?_cons_succ, List.getElem?_cons_zero]; rfl) (by kernel_rfl) (by kernel_rfl) (by kernel_rfl) (by exact fun _ _ _ h => h) (Or.inl ⟨by rfl, ?_⟩) (by assumption) ?_
  rotate_left 1
  · (intro w hSw; (try dsimp only at hSw); go_simp; try with_reducible rfl)
  try simp only [Act.put, List.setIfInBounds_toArray, List.set_cons_zero, List.set_cons_succ]
  refine wpAnyH_take (i := 29) (oi := _) (v := ?_) (by simp only [List.getElem?_toArray, List.getElem?_cons_succ, List.getElem?_cons_zero]; rfl) (by kernel_rfl) (by kernel_rfl) (by kernel_rfl) (by exact fun _ _ _ h => h) (Or.inl ⟨by rfl, ?_⟩) (by assumption) ?_
  rotate_left 1
  · (intro w hSw; (try dsimp only at hSw); go_simp; try with_reducible rfl)
  try simp only [Act.put, List.setIfInBounds_toArray, List.set_cons_zero, List.set_cons_succ]
  refine wpAnyH_take (i := 30) (oi := _) (v := ?_) (by simp only [List.getElem?_toArray, List.getElem?_cons_succ, List.getElem?_cons_zero]; rfl) (by kernel_rfl) (by kernel_rfl) (by kernel_rfl) (by exact fun _ _ _ h => h) (Or.inl ⟨by rfl, ?_⟩) (by assumption) ?_
  rotate_left 1
  · (intro w hSw; (try dsimp only at hSw); go_simp; try with_reducible rfl)
  try simp only [Act.put, List.setIfInBounds_toArray, List.set_cons_zero, List.set_cons_succ]
  refine wpAnyH_ready (rs := [31]) (by kernel_rfl) (by simp) ?_
  refine AllReadyH.cons (o := _) (by simp only [List.getElem?_toArray, List.getElem?_cons_succ, List.getElem?_cons_zero]; rfl) (fun K hK => ?_) AllReadyH.nil
  go_simp
  (go_at_call 39; (with_reducible refine (K11.out _).mono ?_); rintro e w14 ⟨rfl, hb⟩; obtain ⟨hclw14, hfrw14⟩ := bcell hb; have zw14_a : w.heap.size < w14.heap.size := (by first | omega | (have hz := hb.size; (try simp at hz); omega)); have yw14_a : w.heap.size < w14.heap.size + 1 := (by omega); have yyw14_a : w.heap.size < w14.heap.size + 1 + 1 := (by omega); have zw14_x : w3.heap.size < w14.heap.size := (by first | omega | (have hz := hb.size; (try simp at hz); omega)); have yw14_x : w3.heap.size < w14.heap.size + 1 := (by omega); have yyw14_x : w3.heap.size < w14.heap.size + 1 + 1 := (by omega); have zw14_y : w3.heap.size + 1 < w14.heap.size := (by first | omega | (have hz := hb.size; (try simp at hz); omega)); have yw14_y : w3.heap.size + 1 < w14.heap.size + 1 := (by omega); have yyw14_y : w3.heap.size + 1 < w14.heap.size + 1 + 1 := (by omega); have zw14_p : w4.heap.size < w14.heap.size := (by first | omega | (have hz := hb.size; (try simp at hz); omega)); have yw14_p : w4.heap.size < w14.heap.size + 1 := (by omega); have yyw14_p : w4.heap.size < w14.heap.size + 1 + 1 := (by omega); have zw14_one : bX1one < w14.heap.size := (by first | omega | (have hz := hb.size; (try simp at hz); omega)); have yw14_one : bX1one < w14.heap.size + 1 := (by omega); have yyw14_one : bX1one < w14.heap.size + 1 + 1 := (by omega); have zw14_by : bX2by < w14.heap.size := (by first | omega | (have hz := hb.size; (try simp at hz); omega)); have yw14_by : bX2by < w14.heap.size + 1 := (by omega); have yyw14_by : bX2by < w14.heap.size + 1 + 1 := (by omega); have sxw14_0 : R3.heap.size ≤ w14.heap.size := (by first | omega | (have hz := hb.size; (try simp at hz); omega)); have sxw14_w10 : w10.heap.size ≤ w14.heap.size := (by first | omega | (have hz := hb.size; (try simp at hz); omega)); have sxw14_w11 : w11.heap.size ≤ w14.heap.size := (by first | omega | (have hz := hb.size; (try simp at hz); omega)); have sxw14_w12 : w12.heap.size ≤ w14.heap.size := (by first | omega | (have hz := hb.size; (try simp at hz); omega)); have sxw14_w13 : w13.heap.size ≤ w14.heap.size := (by first | omega | (have hz := hb.size; (try simp at hz); omega)); have HBw14 : Hid (Below w.heap.size w w14) := (bl_trans (by repeat (first | with_reducible exact Below.refl _ _ | with_reducible exact Hid.out (by assumption) | with_reducible refine Below.setCell ?_ (by first | (simp; done) | omega | (simp <;> omega)) _ | with_reducible refine bl_al ?_ _ | with_reducible apply Below.drew)) hb); clear hb; clear K11)
  try go_wp2_with fail
  refine hK.out _ _ ?_ (fun hHeldN => ?_)
  · (try dsimp only); (first | (simp [*, go_sem]; done) | (simp [*, go_sem, World.cell?_alloc_past]; done))
  clear hK K hHeld; have hHeld := hHeldN; clear hHeldN
  try simp only [Act.put, List.setIfInBounds_toArray, List.set_cons_zero, List.set_cons_succ]
  refine wpAnyH_take (i := 32) (oi := _) (v := ?_) (by simp only [List.getElem?_toArray, List.getElem?_cons_succ, List.getElem?_cons_zero]; rfl) (by kernel_rfl) (by kernel_rfl) (by kernel_rfl) (by exact fun _ _ _ h => h) (Or.inl ⟨by rfl, ?_⟩) (by assumption) ?_
  rotate_left 1
  · (intro w hSw; (try dsimp only at hSw); go_simp; try with_reducible rfl)
  try simp only [Act.put, List.setIfInBounds_toArray, List.set_cons_zero, List.set_cons_succ]
  refine wpAnyH_take (i := 33) (oi := _) (v := ?_) (by simp only [List.getElem?_toArray, List.getElem?_cons_succ, List.getElem?_cons_zero]; rfl) (by kernel_rfl) (by kernel_rfl) (by kernel_rfl) (by exact fun _ _ _ h => h) (Or.inl ⟨by rfl, ?_⟩) (by assumption) ?_
  rotate_left 1
  · (intro w hSw; (try dsimp only at hSw); go_simp; try with_reducible rfl)
  try simp only [Act.put, List.setIfInBounds_toArray, List.set_cons_zero, List.set_cons_succ]
  refine wpAnyH_done (by kernel_rfl) ?_ _
  clear hHeld
  go_wp2_with fail
  (with_reducible refine (K12.out _).mono ?_); rintro e w15 ⟨rfl, hb⟩; obtain ⟨hclw15, hfrw15⟩ := bcell hb; have zw15_a : w.heap.size < w15.heap.size := (by first | omega | (have hz := hb.size; (try simp at hz); omega)); have yw15_a : w.heap.size < w15.heap.size + 1 := (by omega); have yyw15_a : w.heap.size < w15.heap.size + 1 + 1 := (by omega); have zw15_x : w3.heap.size < w15.heap.size := (by first | omega | (have hz := hb.size; (try simp at hz); omega)); have yw15_x : w3.heap.size < w15.heap.size + 1 := (by omega); have yyw15_x : w3.heap.size < w15.heap.size + 1 + 1 := (by omega); have zw15_y : w3.heap.size + 1 < w15.heap.size := (by first | omega | (have hz := hb.size; (try simp at hz); omega)); have yw15_y : w3.heap.size + 1 < w15.heap.size + 1 := (by omega); have yyw15_y : w3.heap.size + 1 < w15.heap.size + 1 + 1 := (by omega); have zw15_p : w4.heap.size < w15.heap.size := (by first | omega | (have hz := hb.size; (try simp at hz); omega)); have yw15_p : w4.heap.size < w15.heap.size + 1 := (by omega); have yyw15_p : w4.heap.size < w15.heap.size + 1 + 1 := (by omega); have zw15_one : bX1one < w15.heap.size := (by first | omega | (have hz := hb.size; (try simp at hz); omega)); have yw15_one : bX1one < w15.heap.size + 1 := (by omega); have yyw15_one : bX1one < w15.heap.size + 1 + 1 := (by omega); have zw15_by : bX2by < w15.heap.size := (by first | omega | (have hz := hb.size; (try simp at hz); omega)); have yw15_by : bX2by < w15.heap.size + 1 := (by omega); have yyw15_by : bX2by < w15.heap.size + 1 + 1 := (by omega); have zw15_zz : w9.heap.size < w15.heap.size := (by first | omega | (have hz := hb.size; (try simp at hz); omega)); have yw15_zz : w9.heap.size < w15.heap.size + 1 := (by omega); have yyw15_zz : w9.heap.size < w15.heap.size + 1 + 1 := (by omega); have sxw15_0 : w14.heap.size ≤ w15.heap.size := (by first | omega | (have hz := hb.size; (try simp at hz); omega)); have HBw15 : Hid (Below w.heap.size w w15) := (bl_trans (by repeat (first | with_reducible exact Below.refl _ _ | with_reducible exact Hid.out (by assumption) | with_reducible refine Below.setCell ?_ (by first | (simp; done) | omega | (simp <;> omega)) _ | with_reducible refine bl_al ?_ _ | with_reducible apply Below.drew)) hb); clear hb
  go_wp2_with fail
  go_returns
  exact ⟨rfl, by repeat (first | with_reducible exact Below.refl _ _ | with_reducible exact Hid.out (by assumption) | with_reducible refine Below.setCell ?_ (by first | (simp; done) | omega | (simp <;> omega)) _ | with_reducible refine bl_al ?_ _ | with_reducible apply Below.drew)⟩
set_option maxRecDepth 20000 in
set_option maxHeartbeats 4000000 in
theorem fixNear_some (a1 a0 m n k x1 x0 y1 y0 p1 p0 o1 o0 : Int) (u1 : IntKind.i64.wrap m = m) (v1 : wrap64 m = m) (u2 : IntKind.i64.wrap n = n) (v2 : wrap64 n = n) (hn : n ≠ 0) (u3 : IntKind.i64.wrap (m * n) = k) (w : World)
    (C1 : ∀ W, Calls Try.prog 14 #[.agg #[.int .i64 a1, .int .u64 a0]] W fun e w' => e = .returned (.bool true) ∧ Below W.heap.size W w')
    (C2 : ∀ W, Calls Try.prog 27 #[.int .i64 m] W fun e w' => e = .returned (.agg #[.int .i64 x1, .int .u64 x0]) ∧ Below W.heap.size W w')
    (C3 : ∀ W, Calls Try.prog 27 #[.int .i64 n] W fun e w' => e = .returned (.agg #[.int .i64 y1, .int .u64 y0]) ∧ Below W.heap.size W w')
    (C4 : ∀ W, Calls Try.prog 20 #[.agg #[.int .i64 x1, .int .u64 x0], .agg #[.int .i64 y1, .int .u64 y0]] W fun e w' => e = .returned (.tuple #[.agg #[.int .i64 p1, .int .u64 p0], .int .i64 0]) ∧ Below W.heap.size W w')
    (C5 : ∀ W, Calls Try.prog 27 #[.int .i64 1] W fun e w' => e = .returned (.agg #[.int .i64 o1, .int .u64 o0]) ∧ Below W.heap.size W w')
    (C6 : ∀ W, Calls Try.prog 20 #[.agg #[.int .i64 a1, .int .u64 a0], .agg #[.int .i64 o1, .int .u64 o0]] W fun e w' => e = .returned (.tuple #[.agg #[.int .i64 a1, .int .u64 a0], .int .i64 0]) ∧ Below W.heap.size W w')
    (C7 : ∀ W, Calls Try.prog 21 #[.agg #[.int .i64 a1, .int .u64 a0], .agg #[.int .i64 o1, .int .u64 o0]] W fun e w' => e = .returned (.tuple #[.agg #[.int .i64 a1, .int .u64 a0], .int .i64 0]) ∧ Below W.heap.size W w')
    (C8 : ∀ W, Calls Try.prog 21 #[.agg #[.int .i64 a1, .int .u64 a0], .agg #[.int .i64 0, .int .u64 0]] W fun e w' => e = .returned (.tuple #[.agg #[.int .i64 0, .int .u64 0], .int .i64 2]) ∧ Below W.heap.size W w')
    (C9 : ∀ W, Calls Try.prog 27 #[.int .i64 k] W fun e w' => e = .returned (.agg #[.int .i64 p1, .int .u64 p0]) ∧ Below W.heap.size W w')
    (C10 : ∀ W, Calls Try.prog 39 #[.int .i64 0] W fun e w' => e = .returned (.int .i64 0) ∧ Below W.heap.size W w')
    (C11 : ∀ W, Calls Try.prog 39 #[.int .i64 2] W fun e w' => e = .returned (.int .i64 2) ∧ Below W.heap.size W w')
    (C12 : ∀ W, Calls Try.prog 21 #[.agg #[.int .i64 p1, .int .u64 p0], .agg #[.int .i64 y1, .int .u64 y0]] W fun e w' => e = .returned (.tuple #[.agg #[.int .i64 x1, .int .u64 x0], .int .i64 0]) ∧ Below W.heap.size W w')
    (C13 : ∀ W, Calls Try.prog 17 #[] W fun e w' => e = .returned (.bool true) ∧ Below W.heap.size W w') :
    Calls Try.prog 7 #[.agg #[.int .i64 a1, .int .u64 a0], .int .i32 m, .int .i32 n] w fun e w' => e = .returned (.bool true) ∧ Below w.heap.size w w' := by
  have K1 := Lib.hid C1; have K2 := Lib.hid C2; have K3 := Lib.hid C3; have K4 := Lib.hid C4; have K5 := Lib.hid C5; have K6 := Lib.hid C6; have K7 := Lib.hid C7; have K8 := Lib.hid C8; have K9 := Lib.hid C9; have K10 := Lib.hid C10; have K11 := Lib.hid C11; have K12 := Lib.hid C12; have K13 := Lib.hid C13
  clear C1 C2 C3 C4 C5 C6 C7 C8 C9 C10 C11 C12 C13
  have q1 := ne_fix_false p1 p0; have q2 := ne_fix_false a1 a0; have q3 := eq_fix_true x1 x0
  have K20 := K5; have K21 := K10; have K22 := K10; have K30 := K10
  have t1 : (n == 0) = false := by rw [beq_eq_false_iff_ne]; exact hn
  have w0 : IntKind.i64.wrap 0 = 0 := by decide
  go_enter Try.func7, Try.ntmps7
  go_wp2_with fail
  (with_reducible refine (K1.out _).mono ?_); rintro e w1 ⟨rfl, hb⟩; obtain ⟨hclw1, hfrw1⟩ := bcell hb; have zw1_a : w.heap.size < w1.heap.size := (by first | omega | (have hz := hb.size; (try simp at hz); omega)); have yw1_a : w.heap.size < w1.heap.size + 1 := (by omega); have yyw1_a : w.heap.size < w1.heap.size + 1 + 1 := (by omega); have sxw1_0 : w.heap.size + 1 ≤ w1.heap.size := (by first | omega | (have hz := hb.size; (try simp at hz); omega)); have HBw1 : Hid (Below w.heap.size w w1) := (bl_trans (by repeat (first | with_reducible exact Below.refl _ _ | with_reducible exact Hid.out (by assumption) | with_reducible refine Below.setCell ?_ (by first | (simp; done) | omega | (simp <;> omega)) _ | with_reducible refine bl_al ?_ _ | with_reducible apply Below.drew)) hb); clear hb
  go_wp2_with fail
  (with_reducible refine (K2.out _).mono ?_); rintro e w2 ⟨rfl, hb⟩; obtain ⟨hclw2, hfrw2⟩ := bcell hb; have zw2_a : w.heap.size < w2.heap.size := (by first | omega | (have hz := hb.size; (try simp at hz); omega)); have yw2_a : w.heap.size < w2.heap.size + 1 := (by omega); have yyw2_a : w.heap.size < w2.heap.size + 1 + 1 := (by omega); have sxw2_0 : w1.heap.size ≤ w2.heap.size := (by first | omega | (have hz := hb.size; (try simp at hz); omega)); have HBw2 : Hid (Below w.heap.size w w2) := (bl_trans (by repeat (first | with_reducible exact Below.refl _ _ | with_reducible exact Hid.out (by assumption) | with_reducible refine Below.setCell ?_ (by first | (simp; done) | omega | (simp <;> omega)) _ | with_reducible refine bl_al ?_ _ | with_reducible apply Below.drew)) hb); clear hb
  go_wp2_with fail
  (with_reducible refine (K3.out _).mono ?_); rintro e w3 ⟨rfl, hb⟩; obtain ⟨hclw3, hfrw3⟩ := bcell hb; have zw3_a : w.heap.size < w3.heap.size := (by first | omega | (have hz := hb.size; (try simp at hz); omega)); have yw3_a : w.heap.size < w3.heap.size + 1 := (by omega); have yyw3_a : w.heap.size < w3.heap.size + 1 + 1 := (by omega); have sxw3_0 : w2.heap.size ≤ w3.heap.size := (by first | omega | (have hz := hb.size; (try simp at hz); omega)); have HBw3 : Hid (Below w.heap.size w w3) := (bl_trans (by repeat (first | with_reducible exact Below.refl _ _ | with_reducible exact Hid.out (by assumption) | with_reducible refine Below.setCell ?_ (by first | (simp; done) | omega | (simp <;> omega)) _ | with_reducible refine bl_al ?_ _ | with_reducible apply Below.drew)) hb); clear hb
  go_wp2_with fail
  (with_reducible refine (K4.out _).mono ?_); rintro e w4 ⟨rfl, hb⟩; obtain ⟨hclw4, hfrw4⟩ := bcell hb; have zw4_a : w.heap.size < w4.heap.size := (by first | omega | (have hz := hb.size; (try simp at hz); omega)); have yw4_a : w.heap.size < w4.heap.size + 1 := (by omega); have yyw4_a : w.heap.size < w4.heap.size + 1 + 1 := (by omega); have zw4_x : w3.heap.size < w4.heap.size := (by first | omega | (have hz := hb.size; (try simp at hz); omega)); have yw4_x : w3.heap.size < w4.heap.size + 1 := (by omega); have yyw4_x : w3.heap.size < w4.heap.size + 1 + 1 := (by omega); have zw4_y : w3.heap.size + 1 < w4.heap.size := (by first | omega | (have hz := hb.size; (try simp at hz); omega)); have yw4_y : w3.heap.size + 1 < w4.heap.size + 1 := (by omega); have yyw4_y : w3.heap.size + 1 < w4.heap.size + 1 + 1 := (by omega); have sxw4_0 : w3.heap.size + 1 + 1 ≤ w4.heap.size := (by first | omega | (have hz := hb.size; (try simp at hz); omega)); have HBw4 : Hid (Below w.heap.size w w4) := (bl_trans (by repeat (first | with_reducible exact Below.refl _ _ | with_reducible exact Hid.out (by assumption) | with_reducible refine Below.setCell ?_ (by first | (simp; done) | omega | (simp <;> omega)) _ | with_reducible refine bl_al ?_ _ | with_reducible apply Below.drew)) hb); clear hb
  go_upto_region 5 with fail
  refine name_world (P := fun W => Code.wp _ _ _ _ W) _ (fun R1 hR1 => ?_)
  have zR1_a : w.heap.size < R1.heap.size := by rw [hR1]; first | omega | (simp <;> omega)
  have yR1_a : w.heap.size < R1.heap.size + 1 := by omega
  have yyR1_a : w.heap.size < R1.heap.size + 1 + 1 := by omega
  have cR1_a_0 : R1.cell? ⟨w.heap.size, 0, none⟩ = some (.int .i64 a1) := by rw [hR1]; first | assumption | (simp [go_sem, *]; done)
  have cR1_a_1 : R1.cell? ⟨w.heap.size, 1, none⟩ = some (.int .u64 a0) := by rw [hR1]; first | assumption | (simp [go_sem, *]; done)
  have zR1_x : w3.heap.size < R1.heap.size := by rw [hR1]; first | omega | (simp <;> omega)
  have yR1_x : w3.heap.size < R1.heap.size + 1 := by omega
  have yyR1_x : w3.heap.size < R1.heap.size + 1 + 1 := by omega
  have cR1_x_0 : R1.cell? ⟨w3.heap.size, 0, none⟩ = some (.int .i64 x1) := by rw [hR1]; first | assumption | (simp [go_sem, *]; done)
  have cR1_x_1 : R1.cell? ⟨w3.heap.size, 1, none⟩ = some (.int .u64 x0) := by rw [hR1]; first | assumption | (simp [go_sem, *]; done)
  have zR1_y : w3.heap.size + 1 < R1.heap.size := by rw [hR1]; first | omega | (simp <;> omega)
  have yR1_y : w3.heap.size + 1 < R1.heap.size + 1 := by omega
  have yyR1_y : w3.heap.size + 1 < R1.heap.size + 1 + 1 := by omega
  have cR1_y_0 : R1.cell? ⟨w3.heap.size + 1, 0, none⟩ = some (.int .i64 y1) := by rw [hR1]; first | assumption | (simp [go_sem, *]; done)
  have cR1_y_1 : R1.cell? ⟨w3.heap.size + 1, 1, none⟩ = some (.int .u64 y0) := by rw [hR1]; first | assumption | (simp [go_sem, *]; done)
  have zR1_p : w4.heap.size < R1.heap.size := by rw [hR1]; first | omega | (simp <;> omega)
  have yR1_p : w4.heap.size < R1.heap.size + 1 := by omega
  have yyR1_p : w4.heap.size < R1.heap.size + 1 + 1 := by omega
  have cR1_p_0 : R1.cell? ⟨w4.heap.size, 0, none⟩ = some (.int .i64 p1) := by rw [hR1]; first | assumption | (simp [go_sem, *]; done)
  have cR1_p_1 : R1.cell? ⟨w4.heap.size, 1, none⟩ = some (.int .u64 p0) := by rw [hR1]; first | assumption | (simp [go_sem, *]; done)
  have HBR1 : Hid (Below w.heap.size w R1) := by rw [hR1]; show Below _ _ _; exact (by repeat (first | with_reducible exact Below.refl _ _ | with_reducible exact Hid.out (by assumption) | with_reducible refine Below.setCell ?_ (by first | (simp; done) | omega | (simp <;> omega)) _ | with_reducible refine bl_al ?_ _ | with_reducible apply Below.drew))
  clear hR1
  clear zw1_a yw1_a yyw1_a sxw1_0 hclw1 hfrw1 HBw1 zw2_a yw2_a yyw2_a sxw2_0 hclw2 hfrw2 HBw2 zw3_a yw3_a yyw3_a sxw3_0 hclw3 hfrw3 HBw3 zw4_a yw4_a yyw4_a zw4_x yw4_x yyw4_x zw4_y yw4_y yyw4_y sxw4_0 hclw4 hfrw4 HBw4
  go_cut [11, 12] (fun slot0 slot1 X1 => ∃ bX1one : Nat, slot0 = .pointer (some ⟨bX1one, 0, none⟩) ∧ slot1 = .int .i64 0 ∧ R1.heap.size ≤ bX1one ∧ Below R1.heap.size R1 X1 ∧ Has (bX1one) [.int .i64 a1, .int .u64 a0] X1)
  case first =>
    clear HBR1
    have ltt : ∀ n : Nat, n < n + 1 + 1 := fun n => by omega
    have lttt : ∀ n : Nat, n + 1 < n + 1 + 1 := fun n => by omega
    go_region_held3 (fun w' => w'.cell? ⟨w.heap.size, 0, none⟩ = some (.int .i64 a1) ∧ w'.cell? ⟨w.heap.size, 1, none⟩ = some (.int .u64 a0)) (first | (simp [*, go_sem]; done) | (simp [*, go_sem, World.cell?_alloc_past]; done))
      (first
        | (go_at_call 27; (with_reducible refine (K5.out _).mono ?_); rintro e w5 ⟨rfl, hb⟩; (first | (with_reducible (obtain ⟨hclw5, hfrw5⟩ := bcell_drew hb)) | (obtain ⟨hclw5, hfrw5⟩ := bcell hb)); have zw5_a : w.heap.size < w5.heap.size := (by first | omega | (have hz := hb.size; (try simp at hz); omega)); have yw5_a : w.heap.size < w5.heap.size + 1 := (by omega); have yyw5_a : w.heap.size < w5.heap.size + 1 + 1 := (by omega); (try have sw5_0 : R1.heap.size < w5.heap.size := (by first | omega | (have hz := hb.size; (try simp at hz); omega))); (try have syw5_0 : R1.heap.size < w5.heap.size + 1 := (by omega)); (try have stw5_0 : R1.heap.size + 1 < w5.heap.size := (by first | omega | (have hz := hb.size; (try simp at hz); omega))); have sxw5_0 : R1.heap.size ≤ w5.heap.size := (by first | omega | (have hz := hb.size; (try simp at hz); omega)); have HBw5 : Hid (Below R1.heap.size R1 w5) := (bl_trans (by repeat (first | with_reducible exact Below.refl _ _ | with_reducible exact Hid.out (by assumption) | with_reducible refine Below.setCell ?_ (by first | (simp; done) | omega | (simp <;> omega)) _ | with_reducible refine bl_al ?_ _ | with_reducible apply Below.drew)) hb); clear hb; clear K5)
        | (go_at_call 20; (with_reducible refine (K6.out _).mono ?_); rintro e w6 ⟨rfl, hb⟩; obtain ⟨hclw6, hfrw6⟩ := bcell hb; have zw6_a : w.heap.size < w6.heap.size := (by first | omega | (have hz := hb.size; (try simp at hz); omega)); have yw6_a : w.heap.size < w6.heap.size + 1 := (by omega); have yyw6_a : w.heap.size < w6.heap.size + 1 + 1 := (by omega); (try have sw6_0 : R1.heap.size < w6.heap.size := (by first | omega | (have hz := hb.size; (try simp at hz); omega))); (try have syw6_0 : R1.heap.size < w6.heap.size + 1 := (by omega)); (try have stw6_0 : R1.heap.size + 1 < w6.heap.size := (by first | omega | (have hz := hb.size; (try simp at hz); omega))); have sxw6_0 : R1.heap.size ≤ w6.heap.size := (by first | omega | (have hz := hb.size; (try simp at hz); omega)); (try have sw6_w5 : w5.heap.size < w6.heap.size := (by first | omega | (have hz := hb.size; (try simp at hz); omega))); (try have syw6_w5 : w5.heap.size < w6.heap.size + 1 := (by omega)); (try have stw6_w5 : w5.heap.size + 1 < w6.heap.size := (by first | omega | (have hz := hb.size; (try simp at hz); omega))); have sxw6_w5 : w5.heap.size ≤ w6.heap.size := (by first | omega | (have hz := hb.size; (try simp at hz); omega)); have HBw6 : Hid (Below R1.heap.size R1 w6) := (bl_trans (by repeat (first | with_reducible exact Below.refl _ _ | with_reducible exact Hid.out (by assumption) | with_reducible refine Below.setCell ?_ (by first | (simp; done) | omega | (simp <;> omega)) _ | with_reducible refine bl_al ?_ _ | with_reducible apply Below.drew)) hb); clear hb; clear K6))
    all_goals (rename_i hHeld; clear hHeld; go_wp2_with fail; go_meet; exact ⟨_, rfl, rfl, (by first | omega | (simp <;> omega)), (by repeat (first | with_reducible exact Below.refl _ _ | with_reducible exact Hid.out (by assumption) | with_reducible refine Below.setCell ?_ (by first | (simp; done) | omega | (simp <;> omega)) _ | with_reducible refine bl_al ?_ _ | with_reducible apply Below.drew)), Has.mk2 (by first | (simp <;> omega) | omega) (by simp [go_sem, *]) (by simp [go_sem, *])⟩)
  case rest =>
  obtain ⟨X1, hX1⟩ : ∃ X, X = wc := ⟨wc, rfl⟩
  subst hX1
  obtain ⟨bX1one, rfl, rfl, m_bX1one, hX, g_one⟩ := hcut
  have zX1_a : w.heap.size < X1.heap.size := Nat.lt_of_lt_of_le zR1_a hX.size
  have cX1_a_0 : X1.cell? ⟨w.heap.size, 0, none⟩ = some (.int .i64 a1) := by rw [(bcell hX).1 _ _ zR1_a]; exact cR1_a_0
  have cX1_a_1 : X1.cell? ⟨w.heap.size, 1, none⟩ = some (.int .u64 a0) := by rw [(bcell hX).1 _ _ zR1_a]; exact cR1_a_1
  have zX1_x : w3.heap.size < X1.heap.size := Nat.lt_of_lt_of_le zR1_x hX.size
  have cX1_x_0 : X1.cell? ⟨w3.heap.size, 0, none⟩ = some (.int .i64 x1) := by rw [(bcell hX).1 _ _ zR1_x]; exact cR1_x_0
  have cX1_x_1 : X1.cell? ⟨w3.heap.size, 1, none⟩ = some (.int .u64 x0) := by rw [(bcell hX).1 _ _ zR1_x]; exact cR1_x_1
  have zX1_y : w3.heap.size + 1 < X1.heap.size := Nat.lt_of_lt_of_le zR1_y hX.size
  have cX1_y_0 : X1.cell? ⟨w3.heap.size + 1, 0, none⟩ = some (.int .i64 y1) := by rw [(bcell hX).1 _ _ zR1_y]; exact cR1_y_0
  have cX1_y_1 : X1.cell? ⟨w3.heap.size + 1, 1, none⟩ = some (.int .u64 y0) := by rw [(bcell hX).1 _ _ zR1_y]; exact cR1_y_1
  have zX1_p : w4.heap.size < X1.heap.size := Nat.lt_of_lt_of_le zR1_p hX.size
  have cX1_p_0 : X1.cell? ⟨w4.heap.size, 0, none⟩ = some (.int .i64 p1) := by rw [(bcell hX).1 _ _ zR1_p]; exact cR1_p_0
  have cX1_p_1 : X1.cell? ⟨w4.heap.size, 1, none⟩ = some (.int .u64 p0) := by rw [(bcell hX).1 _ _ zR1_p]; exact cR1_p_1
  have zX1_one := g_one.1; have cX1_one_0 := g_one.2 0 _ rfl; have cX1_one_1 := g_one.2 1 _ rfl; clear g_one
  have HBX1 : Hid (Below w.heap.size w X1) := bl_trans HBR1.out hX
  clear hX
  clear zR1_a yR1_a yyR1_a cR1_a_0 cR1_a_1 zR1_x yR1_x yyR1_x cR1_x_0 cR1_x_1 zR1_y yR1_y yyR1_y cR1_y_0 cR1_y_1 zR1_p yR1_p yyR1_p cR1_p_0 cR1_p_1 HBR1 m_bX1one
  go_upto_region 6 with fail
  refine name_world (P := fun W => Code.wp _ _ _ _ W) _ (fun R2 hR2 => ?_)
  have zR2_a : w.heap.size < R2.heap.size := by rw [hR2]; first | omega | (simp <;> omega)
  have yR2_a : w.heap.size < R2.heap.size + 1 := by omega
  have yyR2_a : w.heap.size < R2.heap.size + 1 + 1 := by omega
  have cR2_a_0 : R2.cell? ⟨w.heap.size, 0, none⟩ = some (.int .i64 a1) := by rw [hR2]; first | assumption | (simp [go_sem, *]; done)
  have cR2_a_1 : R2.cell? ⟨w.heap.size, 1, none⟩ = some (.int .u64 a0) := by rw [hR2]; first | assumption | (simp [go_sem, *]; done)
  have zR2_x : w3.heap.size < R2.heap.size := by rw [hR2]; first | omega | (simp <;> omega)
  have yR2_x : w3.heap.size < R2.heap.size + 1 := by omega
  have yyR2_x : w3.heap.size < R2.heap.size + 1 + 1 := by omega
  have cR2_x_0 : R2.cell? ⟨w3.heap.size, 0, none⟩ = some (.int .i64 x1) := by rw [hR2]; first | assumption | (simp [go_sem, *]; done)
  have cR2_x_1 : R2.cell? ⟨w3.heap.size, 1, none⟩ = some (.int .u64 x0) := by rw [hR2]; first | assumption | (simp [go_sem, *]; done)
  have zR2_y : w3.heap.size + 1 < R2.heap.size := by rw [hR2]; first | omega | (simp <;> omega)
  have yR2_y : w3.heap.size + 1 < R2.heap.size + 1 := by omega
  have yyR2_y : w3.heap.size + 1 < R2.heap.size + 1 + 1 := by omega
  have cR2_y_0 : R2.cell? ⟨w3.heap.size + 1, 0, none⟩ = some (.int .i64 y1) := by rw [hR2]; first | assumption | (simp [go_sem, *]; done)
  have cR2_y_1 : R2.cell? ⟨w3.heap.size + 1, 1, none⟩ = some (.int .u64 y0) := by rw [hR2]; first | assumption | (simp [go_sem, *]; done)
  have zR2_p : w4.heap.size < R2.heap.size := by rw [hR2]; first | omega | (simp <;> omega)
  have yR2_p : w4.heap.size < R2.heap.size + 1 := by omega
  have yyR2_p : w4.heap.size < R2.heap.size + 1 + 1 := by omega
  have cR2_p_0 : R2.cell? ⟨w4.heap.size, 0, none⟩ = some (.int .i64 p1) := by rw [hR2]; first | assumption | (simp [go_sem, *]; done)
  have cR2_p_1 : R2.cell? ⟨w4.heap.size, 1, none⟩ = some (.int .u64 p0) := by rw [hR2]; first | assumption | (simp [go_sem, *]; done)
  have zR2_one : bX1one < R2.heap.size := by rw [hR2]; first | omega | (simp <;> omega)
  have yR2_one : bX1one < R2.heap.size + 1 := by omega
  have yyR2_one : bX1one < R2.heap.size + 1 + 1 := by omega
  have cR2_one_0 : R2.cell? ⟨bX1one, 0, none⟩ = some (.int .i64 a1) := by rw [hR2]; first | assumption | (simp [go_sem, *]; done)
  have cR2_one_1 : R2.cell? ⟨bX1one, 1, none⟩ = some (.int .u64 a0) := by rw [hR2]; first | assumption | (simp [go_sem, *]; done)
  have HBR2 : Hid (Below w.heap.size w R2) := by rw [hR2]; show Below _ _ _; exact (by repeat (first | with_reducible exact Below.refl _ _ | with_reducible exact Hid.out (by assumption) | with_reducible refine Below.setCell ?_ (by first | (simp; done) | omega | (simp <;> omega)) _ | with_reducible refine bl_al ?_ _ | with_reducible apply Below.drew))
  clear hR2
  clear HBX1 zX1_a cX1_a_0 cX1_a_1 zX1_x cX1_x_0 cX1_x_1 zX1_y cX1_y_0 cX1_y_1 zX1_p cX1_p_0 cX1_p_1 zX1_one cX1_one_0 cX1_one_1
  go_cut [13, 14] (fun slot0 slot1 X2 => ∃ bX2by : Nat, slot0 = .pointer (some ⟨bX2by, 0, none⟩) ∧ slot1 = .int .i64 0 ∧ R2.heap.size ≤ bX2by ∧ Below R2.heap.size R2 X2 ∧ Has (bX2by) [.int .i64 a1, .int .u64 a0] X2)
  case first =>
    clear HBR2
    have ltt : ∀ n : Nat, n < n + 1 + 1 := fun n => by omega
    have lttt : ∀ n : Nat, n + 1 < n + 1 + 1 := fun n => by omega
    go_region_held3 (fun w' => w'.cell? ⟨w.heap.size, 0, none⟩ = some (.int .i64 a1) ∧ w'.cell? ⟨w.heap.size, 1, none⟩ = some (.int .u64 a0)) (first | (simp [*, go_sem]; done) | (simp [*, go_sem, World.cell?_alloc_past]; done))
      (first
        | (go_at_call 27; (with_reducible refine (K20.out _).mono ?_); rintro e w7 ⟨rfl, hb⟩; (first | (with_reducible (obtain ⟨hclw7, hfrw7⟩ := bcell_drew hb)) | (obtain ⟨hclw7, hfrw7⟩ := bcell hb)); have zw7_a : w.heap.size < w7.heap.size := (by first | omega | (have hz := hb.size; (try simp at hz); omega)); have yw7_a : w.heap.size < w7.heap.size + 1 := (by omega); have yyw7_a : w.heap.size < w7.heap.size + 1 + 1 := (by omega); (try have sw7_0 : R2.heap.size < w7.heap.size := (by first | omega | (have hz := hb.size; (try simp at hz); omega))); (try have syw7_0 : R2.heap.size < w7.heap.size + 1 := (by omega)); (try have stw7_0 : R2.heap.size + 1 < w7.heap.size := (by first | omega | (have hz := hb.size; (try simp at hz); omega))); have sxw7_0 : R2.heap.size ≤ w7.heap.size := (by first | omega | (have hz := hb.size; (try simp at hz); omega)); have HBw7 : Hid (Below R2.heap.size R2 w7) := (bl_trans (by repeat (first | with_reducible exact Below.refl _ _ | with_reducible exact Hid.out (by assumption) | with_reducible refine Below.setCell ?_ (by first | (simp; done) | omega | (simp <;> omega)) _ | with_reducible refine bl_al ?_ _ | with_reducible apply Below.drew)) hb); clear hb; clear K20)
        | (go_at_call 21; (with_reducible refine (K7.out _).mono ?_); rintro e w8 ⟨rfl, hb⟩; obtain ⟨hclw8, hfrw8⟩ := bcell hb; have zw8_a : w.heap.size < w8.heap.size := (by first | omega | (have hz := hb.size; (try simp at hz); omega)); have yw8_a : w.heap.size < w8.heap.size + 1 := (by omega); have yyw8_a : w.heap.size < w8.heap.size + 1 + 1 := (by omega); (try have sw8_0 : R2.heap.size < w8.heap.size := (by first | omega | (have hz := hb.size; (try simp at hz); omega))); (try have syw8_0 : R2.heap.size < w8.heap.size + 1 := (by omega)); (try have stw8_0 : R2.heap.size + 1 < w8.heap.size := (by first | omega | (have hz := hb.size; (try simp at hz); omega))); have sxw8_0 : R2.heap.size ≤ w8.heap.size := (by first | omega | (have hz := hb.size; (try simp at hz); omega)); (try have sw8_w7 : w7.heap.size < w8.heap.size := (by first | omega | (have hz := hb.size; (try simp at hz); omega))); (try have syw8_w7 : w7.heap.size < w8.heap.size + 1 := (by omega)); (try have stw8_w7 : w7.heap.size + 1 < w8.heap.size := (by first | omega | (have hz := hb.size; (try simp at hz); omega))); have sxw8_w7 : w7.heap.size ≤ w8.heap.size := (by first | omega | (have hz := hb.size; (try simp at hz); omega)); have HBw8 : Hid (Below R2.heap.size R2 w8) := (bl_trans (by repeat (first | with_reducible exact Below.refl _ _ | with_reducible exact Hid.out (by assumption) | with_reducible refine Below.setCell ?_ (by first | (simp; done) | omega | (simp <;> omega)) _ | with_reducible refine bl_al ?_ _ | with_reducible apply Below.drew)) hb); clear hb; clear K7))
    all_goals (rename_i hHeld; clear hHeld; go_wp2_with fail; go_meet; exact ⟨_, rfl, rfl, (by first | omega | (simp <;> omega)), (by repeat (first | with_reducible exact Below.refl _ _ | with_reducible exact Hid.out (by assumption) | with_reducible refine Below.setCell ?_ (by first | (simp; done) | omega | (simp <;> omega)) _ | with_reducible refine bl_al ?_ _ | with_reducible apply Below.drew)), Has.mk2 (by first | (simp <;> omega) | omega) (by simp [go_sem, *]) (by simp [go_sem, *])⟩)
  case rest =>
  obtain ⟨X2, hX2⟩ : ∃ X, X = wc := ⟨wc, rfl⟩
  subst hX2
  obtain ⟨bX2by, rfl, rfl, m_bX2by, hX, g_by⟩ := hcut
  have zX2_a : w.heap.size < X2.heap.size := Nat.lt_of_lt_of_le zR2_a hX.size
  have cX2_a_0 : X2.cell? ⟨w.heap.size, 0, none⟩ = some (.int .i64 a1) := by rw [(bcell hX).1 _ _ zR2_a]; exact cR2_a_0
  have cX2_a_1 : X2.cell? ⟨w.heap.size, 1, none⟩ = some (.int .u64 a0) := by rw [(bcell hX).1 _ _ zR2_a]; exact cR2_a_1
  have zX2_x : w3.heap.size < X2.heap.size := Nat.lt_of_lt_of_le zR2_x hX.size
  have cX2_x_0 : X2.cell? ⟨w3.heap.size, 0, none⟩ = some (.int .i64 x1) := by rw [(bcell hX).1 _ _ zR2_x]; exact cR2_x_0
  have cX2_x_1 : X2.cell? ⟨w3.heap.size, 1, none⟩ = some (.int .u64 x0) := by rw [(bcell hX).1 _ _ zR2_x]; exact cR2_x_1
  have zX2_y : w3.heap.size + 1 < X2.heap.size := Nat.lt_of_lt_of_le zR2_y hX.size
  have cX2_y_0 : X2.cell? ⟨w3.heap.size + 1, 0, none⟩ = some (.int .i64 y1) := by rw [(bcell hX).1 _ _ zR2_y]; exact cR2_y_0
  have cX2_y_1 : X2.cell? ⟨w3.heap.size + 1, 1, none⟩ = some (.int .u64 y0) := by rw [(bcell hX).1 _ _ zR2_y]; exact cR2_y_1
  have zX2_p : w4.heap.size < X2.heap.size := Nat.lt_of_lt_of_le zR2_p hX.size
  have cX2_p_0 : X2.cell? ⟨w4.heap.size, 0, none⟩ = some (.int .i64 p1) := by rw [(bcell hX).1 _ _ zR2_p]; exact cR2_p_0
  have cX2_p_1 : X2.cell? ⟨w4.heap.size, 1, none⟩ = some (.int .u64 p0) := by rw [(bcell hX).1 _ _ zR2_p]; exact cR2_p_1
  have zX2_one : bX1one < X2.heap.size := Nat.lt_of_lt_of_le zR2_one hX.size
  have cX2_one_0 : X2.cell? ⟨bX1one, 0, none⟩ = some (.int .i64 a1) := by rw [(bcell hX).1 _ _ zR2_one]; exact cR2_one_0
  have cX2_one_1 : X2.cell? ⟨bX1one, 1, none⟩ = some (.int .u64 a0) := by rw [(bcell hX).1 _ _ zR2_one]; exact cR2_one_1
  have zX2_by := g_by.1; have cX2_by_0 := g_by.2 0 _ rfl; have cX2_by_1 := g_by.2 1 _ rfl; clear g_by
  have HBX2 : Hid (Below w.heap.size w X2) := bl_trans HBR2.out hX
  clear hX
  clear zR2_a yR2_a yyR2_a cR2_a_0 cR2_a_1 zR2_x yR2_x yyR2_x cR2_x_0 cR2_x_1 zR2_y yR2_y yyR2_y cR2_y_0 cR2_y_1 zR2_p yR2_p yyR2_p cR2_p_0 cR2_p_1 zR2_one yR2_one yyR2_one cR2_one_0 cR2_one_1 HBR2 m_bX2by
  go_wp2_with fail
  (with_reducible refine (K8.out _).mono ?_); rintro e w9 ⟨rfl, hb⟩; obtain ⟨hclw9, hfrw9⟩ := bcell hb; have zw9_a : w.heap.size < w9.heap.size := (by first | omega | (have hz := hb.size; (try simp at hz); omega)); have yw9_a : w.heap.size < w9.heap.size + 1 := (by omega); have yyw9_a : w.heap.size < w9.heap.size + 1 + 1 := (by omega); have zw9_x : w3.heap.size < w9.heap.size := (by first | omega | (have hz := hb.size; (try simp at hz); omega)); have yw9_x : w3.heap.size < w9.heap.size + 1 := (by omega); have yyw9_x : w3.heap.size < w9.heap.size + 1 + 1 := (by omega); have zw9_y : w3.heap.size + 1 < w9.heap.size := (by first | omega | (have hz := hb.size; (try simp at hz); omega)); have yw9_y : w3.heap.size + 1 < w9.heap.size + 1 := (by omega); have yyw9_y : w3.heap.size + 1 < w9.heap.size + 1 + 1 := (by omega); have zw9_p : w4.heap.size < w9.heap.size := (by first | omega | (have hz := hb.size; (try simp at hz); omega)); have yw9_p : w4.heap.size < w9.heap.size + 1 := (by omega); have yyw9_p : w4.heap.size < w9.heap.size + 1 + 1 := (by omega); have zw9_one : bX1one < w9.heap.size := (by first | omega | (have hz := hb.size; (try simp at hz); omega)); have yw9_one : bX1one < w9.heap.size + 1 := (by omega); have yyw9_one : bX1one < w9.heap.size + 1 + 1 := (by omega); have zw9_by : bX2by < w9.heap.size := (by first | omega | (have hz := hb.size; (try simp at hz); omega)); have yw9_by : bX2by < w9.heap.size + 1 := (by omega); have yyw9_by : bX2by < w9.heap.size + 1 + 1 := (by omega); have sxw9_0 : X2.heap.size ≤ w9.heap.size := (by first | omega | (have hz := hb.size; (try simp at hz); omega)); have HBw9 : Hid (Below w.heap.size w w9) := (bl_trans (by repeat (first | with_reducible exact Below.refl _ _ | with_reducible exact Hid.out (by assumption) | with_reducible refine Below.setCell ?_ (by first | (simp; done) | omega | (simp <;> omega)) _ | with_reducible refine bl_al ?_ _ | with_reducible apply Below.drew)) hb); clear hb
  go_upto_region 8 with fail
  refine name_world (P := fun W => Code.wp _ _ _ _ W) _ (fun R3 hR3 => ?_)
  have zR3_a : w.heap.size < R3.heap.size := by rw [hR3]; first | omega | (simp <;> omega)
  have yR3_a : w.heap.size < R3.heap.size + 1 := by omega
  have yyR3_a : w.heap.size < R3.heap.size + 1 + 1 := by omega
  have cR3_a_0 : R3.cell? ⟨w.heap.size, 0, none⟩ = some (.int .i64 a1) := by rw [hR3]; first | assumption | (simp [go_sem, *]; done)
  have cR3_a_1 : R3.cell? ⟨w.heap.size, 1, none⟩ = some (.int .u64 a0) := by rw [hR3]; first | assumption | (simp [go_sem, *]; done)
  have zR3_x : w3.heap.size < R3.heap.size := by rw [hR3]; first | omega | (simp <;> omega)
  have yR3_x : w3.heap.size < R3.heap.size + 1 := by omega
  have yyR3_x : w3.heap.size < R3.heap.size + 1 + 1 := by omega
  have cR3_x_0 : R3.cell? ⟨w3.heap.size, 0, none⟩ = some (.int .i64 x1) := by rw [hR3]; first | assumption | (simp [go_sem, *]; done)
  have cR3_x_1 : R3.cell? ⟨w3.heap.size, 1, none⟩ = some (.int .u64 x0) := by rw [hR3]; first | assumption | (simp [go_sem, *]; done)
  have zR3_y : w3.heap.size + 1 < R3.heap.size := by rw [hR3]; first | omega | (simp <;> omega)
  have yR3_y : w3.heap.size + 1 < R3.heap.size + 1 := by omega
  have yyR3_y : w3.heap.size + 1 < R3.heap.size + 1 + 1 := by omega
  have cR3_y_0 : R3.cell? ⟨w3.heap.size + 1, 0, none⟩ = some (.int .i64 y1) := by rw [hR3]; first | assumption | (simp [go_sem, *]; done)
  have cR3_y_1 : R3.cell? ⟨w3.heap.size + 1, 1, none⟩ = some (.int .u64 y0) := by rw [hR3]; first | assumption | (simp [go_sem, *]; done)
  have zR3_p : w4.heap.size < R3.heap.size := by rw [hR3]; first | omega | (simp <;> omega)
  have yR3_p : w4.heap.size < R3.heap.size + 1 := by omega
  have yyR3_p : w4.heap.size < R3.heap.size + 1 + 1 := by omega
  have cR3_p_0 : R3.cell? ⟨w4.heap.size, 0, none⟩ = some (.int .i64 p1) := by rw [hR3]; first | assumption | (simp [go_sem, *]; done)
  have cR3_p_1 : R3.cell? ⟨w4.heap.size, 1, none⟩ = some (.int .u64 p0) := by rw [hR3]; first | assumption | (simp [go_sem, *]; done)
  have zR3_one : bX1one < R3.heap.size := by rw [hR3]; first | omega | (simp <;> omega)
  have yR3_one : bX1one < R3.heap.size + 1 := by omega
  have yyR3_one : bX1one < R3.heap.size + 1 + 1 := by omega
  have cR3_one_0 : R3.cell? ⟨bX1one, 0, none⟩ = some (.int .i64 a1) := by rw [hR3]; first | assumption | (simp [go_sem, *]; done)
  have cR3_one_1 : R3.cell? ⟨bX1one, 1, none⟩ = some (.int .u64 a0) := by rw [hR3]; first | assumption | (simp [go_sem, *]; done)
  have zR3_by : bX2by < R3.heap.size := by rw [hR3]; first | omega | (simp <;> omega)
  have yR3_by : bX2by < R3.heap.size + 1 := by omega
  have yyR3_by : bX2by < R3.heap.size + 1 + 1 := by omega
  have cR3_by_0 : R3.cell? ⟨bX2by, 0, none⟩ = some (.int .i64 a1) := by rw [hR3]; first | assumption | (simp [go_sem, *]; done)
  have cR3_by_1 : R3.cell? ⟨bX2by, 1, none⟩ = some (.int .u64 a0) := by rw [hR3]; first | assumption | (simp [go_sem, *]; done)
  have zR3_zz : w9.heap.size < R3.heap.size := by rw [hR3]; first | omega | (simp <;> omega)
  have yR3_zz : w9.heap.size < R3.heap.size + 1 := by omega
  have yyR3_zz : w9.heap.size < R3.heap.size + 1 + 1 := by omega
  have cR3_zz_0 : R3.cell? ⟨w9.heap.size, 0, none⟩ = some (.int .i64 0) := by rw [hR3]; first | assumption | (simp [go_sem, *]; done)
  have cR3_zz_1 : R3.cell? ⟨w9.heap.size, 1, none⟩ = some (.int .u64 0) := by rw [hR3]; first | assumption | (simp [go_sem, *]; done)
  have HBR3 : Hid (Below w.heap.size w R3) := by rw [hR3]; show Below _ _ _; exact (by repeat (first | with_reducible exact Below.refl _ _ | with_reducible exact Hid.out (by assumption) | with_reducible refine Below.setCell ?_ (by first | (simp; done) | omega | (simp <;> omega)) _ | with_reducible refine bl_al ?_ _ | with_reducible apply Below.drew))
  clear hR3
  clear HBX2 zX2_a cX2_a_0 cX2_a_1 zX2_x cX2_x_0 cX2_x_1 zX2_y cX2_y_0 cX2_y_1 zX2_p cX2_p_0 cX2_p_1 zX2_one cX2_one_0 cX2_one_1 zX2_by cX2_by_0 cX2_by_1 zw9_a yw9_a yyw9_a zw9_x yw9_x yyw9_x zw9_y yw9_y yyw9_y zw9_p yw9_p yyw9_p zw9_one yw9_one yyw9_one zw9_by yw9_by yyw9_by sxw9_0 hclw9 hfrw9 HBw9
  refine wp_region_held_drew (S := fun w' => w'.cell? ⟨w.heap.size, 0, none⟩ = some (.int .i64 a1) ∧ w'.cell? ⟨w.heap.size, 1, none⟩ = some (.int .u64 a0) ∧ w'.cell? ⟨w4.heap.size, 0, none⟩ = some (.int .i64 p1) ∧ w'.cell? ⟨w4.heap.size, 1, none⟩ = some (.int .u64 p0) ∧ w'.cell? ⟨bX1one, 0, none⟩ = some (.int .i64 a1) ∧ w'.cell? ⟨bX1one, 1, none⟩ = some (.int .u64 a0) ∧ w'.cell? ⟨bX2by, 0, none⟩ = some (.int .i64 a1) ∧ w'.cell? ⟨bX2by, 1, none⟩ = some (.int .u64 a0)) (by kernel_rfl) ?_ (fun hHeld => ?_)
  · (try dsimp only); (first | (simp [*, go_sem]; done) | (simp [*, go_sem, World.cell?_alloc_past]; done))
  refine wpAnyH_take (i := 0) (oi := _) (v := ?_) (by simp only [List.getElem?_toArray, List.getElem?_cons_zero]; rfl) (by kernel_rfl) (by kernel_rfl) (by kernel_rfl) (by exact fun _ _ _ h => h) (Or.inl ⟨by rfl, ?_⟩) (by assumption) ?_
  rotate_left 1
  · (intro w hSw; (try dsimp only at hSw); go_simp; try with_reducible rfl)
  try simp only [Act.put, List.setIfInBounds_toArray, List.set_cons_zero, List.set_cons_succ]
  refine wpAnyH_take (i := 1) (oi := _) (v := ?_) (by simp only [List.getElem?_toArray, List.getElem?_cons_succ, List.getElem?_cons_zero]; rfl) (by kernel_rfl) (by kernel_rfl) (by kernel_rfl) (by exact fun _ _ _ h => h) (Or.inl ⟨by rfl, ?_⟩) (by assumption) ?_
  rotate_left 1
  · (intro w hSw; (try dsimp only at hSw); go_simp; try with_reducible rfl)
  try simp only [Act.put, List.setIfInBounds_toArray, List.set_cons_zero, List.set_cons_succ]
  refine wpAnyH_take (i := 2) (oi := _) (v := ?_) (by simp only [List.getElem?_toArray, List.getElem?_cons_succ, List.getElem?_cons_zero]; rfl) (by kernel_rfl) (by kernel_rfl) (by kernel_rfl) (by exact fun _ _ _ h => h) (Or.inl ⟨by rfl, ?_⟩) (by assumption) ?_
  rotate_left 1
  · (intro w hSw; (try dsimp only at hSw); go_simp; try with_reducible rfl)
  try simp only [Act.put, List.setIfInBounds_toArray, List.set_cons_zero, List.set_cons_succ]
  refine wpAnyH_take (i := 3) (oi := _) (v := ?_) (by simp only [List.getElem?_toArray, List.getElem?_cons_succ, List.getElem?_cons_zero]; rfl) (by kernel_rfl) (by kernel_rfl) (by kernel_rfl) (by exact fun _ _ _ h => h) (Or.inl ⟨by rfl, ?_⟩) (by assumption) ?_
  rotate_left 1
  · (intro w hSw; (try dsimp only at hSw); go_simp; try with_reducible rfl)
  try simp only [Act.put, List.setIfInBounds_toArray, List.set_cons_zero, List.set_cons_succ]
  refine wpAnyH_take (i := 4) (oi := _) (v := ?_) (by simp only [List.getElem?_toArray, List.getElem?_cons_succ, List.getElem?_cons_zero]; rfl) (by kernel_rfl) (by kernel_rfl) (by kernel_rfl) (by exact fun _ _ _ h => h) (Or.inl ⟨by rfl, ?_⟩) (by assumption) ?_
  rotate_left 1
  · (intro w hSw; (try dsimp only at hSw); go_simp; try with_reducible rfl)
  try simp only [Act.put, List.setIfInBounds_toArray, List.set_cons_zero, List.set_cons_succ]
  refine wpAnyH_take (i := 5) (oi := _) (v := ?_) (by simp only [List.getElem?_toArray, List.getElem?_cons_succ, List.getElem?_cons_zero]; rfl) (by kernel_rfl) (by kernel_rfl) (by kernel_rfl) (by exact fun _ _ _ h => h) (Or.inl ⟨by rfl, ?_⟩) (by assumption) ?_
  rotate_left 1
  · (intro w hSw; (try dsimp only at hSw); go_simp; try with_reducible rfl)
  try simp only [Act.put, List.setIfInBounds_toArray, List.set_cons_zero, List.set_cons_succ]
  refine wpAnyH_ready (rs := [6]) (by kernel_rfl) (by simp) ?_
  refine AllReadyH.cons (o := _) (by simp only [List.getElem?_toArray, List.getElem?_cons_succ, List.getElem?_cons_zero]; rfl) (fun K hK => ?_) AllReadyH.nil
  go_simp
  (go_at_call 27; (with_reducible refine (K9.out _).mono ?_); rintro e w10 ⟨rfl, hb⟩; (first | (with_reducible (obtain ⟨hclw10, hfrw10⟩ := bcell_drew hb)) | (obtain ⟨hclw10, hfrw10⟩ := bcell hb)); have zw10_a : w.heap.size < w10.heap.size := (by first | omega | (have hz := hb.size; (try simp at hz); omega)); have yw10_a : w.heap.size < w10.heap.size + 1 := (by omega); have yyw10_a : w.heap.size < w10.heap.size + 1 + 1 := (by omega); have zw10_x : w3.heap.size < w10.heap.size := (by first | omega | (have hz := hb.size; (try simp at hz); omega)); have yw10_x : w3.heap.size < w10.heap.size + 1 := (by omega); have yyw10_x : w3.heap.size < w10.heap.size + 1 + 1 := (by omega); have zw10_y : w3.heap.size + 1 < w10.heap.size := (by first | omega | (have hz := hb.size; (try simp at hz); omega)); have yw10_y : w3.heap.size + 1 < w10.heap.size + 1 := (by omega); have yyw10_y : w3.heap.size + 1 < w10.heap.size + 1 + 1 := (by omega); have zw10_p : w4.heap.size < w10.heap.size := (by first | omega | (have hz := hb.size; (try simp at hz); omega)); have yw10_p : w4.heap.size < w10.heap.size + 1 := (by omega); have yyw10_p : w4.heap.size < w10.heap.size + 1 + 1 := (by omega); have zw10_one : bX1one < w10.heap.size := (by first | omega | (have hz := hb.size; (try simp at hz); omega)); have yw10_one : bX1one < w10.heap.size + 1 := (by omega); have yyw10_one : bX1one < w10.heap.size + 1 + 1 := (by omega); have zw10_by : bX2by < w10.heap.size := (by first | omega | (have hz := hb.size; (try simp at hz); omega)); have yw10_by : bX2by < w10.heap.size + 1 := (by omega); have yyw10_by : bX2by < w10.heap.size + 1 + 1 := (by omega); have sxw10_0 : R3.heap.size ≤ w10.heap.size := (by first | omega | (have hz := hb.size; (try simp at hz); omega)); have HBw10 : Hid (Below w.heap.size w w10) := (bl_trans (by repeat (first | with_reducible exact Below.refl _ _ | with_reducible exact Hid.out (by assumption) | with_reducible refine Below.setCell ?_ (by first | (simp; done) | omega | (simp <;> omega)) _ | with_reducible refine bl_al ?_ _ | with_reducible apply Below.drew)) hb); clear hb; clear K9)
  try go_wp2_with fail
  refine hK.out _ _ ?_ (fun hHeldN => ?_)
  · (try dsimp only); (first | (simp [*, go_sem]; done) | (simp [*, go_sem, World.cell?_alloc_past]; done))
  clear hK K hHeld; have hHeld := hHeldN; clear hHeldN
  try simp only [Act.put, List.setIfInBounds_toArray, List.set_cons_zero, List.set_cons_succ]
  refine wpAnyH_take (i := 7) (oi := _) (v := ?_) (by simp only [List.getElem?_toArray, List.getElem?_cons_succ, List.getElem?_cons_zero]; rfl) (by kernel_rfl) (by kernel_rfl) (by kernel_rfl) (by exact fun _ _ _ h => h) (Or.inl ⟨by rfl, ?_⟩) (by assumption) ?_
  rotate_left 1
  · (intro w hSw; (try dsimp only at hSw); go_simp; try with_reducible rfl)
  try simp only [Act.put, List.setIfInBounds_toArray, List.set_cons_zero, List.set_cons_succ]
  refine wpAnyH_take (i := 8) (oi := _) (v := ?_) (by simp only [List.getElem?_toArray, List.getElem?_cons_succ, List.getElem?_cons_zero]; rfl) (by kernel_rfl) (by kernel_rfl) (by kernel_rfl) (by exact fun _ _ _ h => h) (Or.inl ⟨by rfl, ?_⟩) (by assumption) ?_
  rotate_left 1
  · (intro w hSw; (try dsimp only at hSw); go_simp; try with_reducible rfl)
  try simp only [Act.put, List.setIfInBounds_toArray, List.set_cons_zero, List.set_cons_succ]
  refine wpAnyH_take (i := 9) (oi := _) (v := ?_) (by simp only [List.getElem?_toArray, List.getElem?_cons_succ, List.getElem?_cons_zero]; rfl) (by kernel_rfl) (by kernel_rfl) (by kernel_rfl) (by exact fun _ _ _ h => h) (Or.inl ⟨by rfl, ?_⟩) (by assumption) ?_
  rotate_left 1
  · (intro w hSw; (try dsimp only at hSw); go_simp; try with_reducible rfl)
  try simp only [Act.put, List.setIfInBounds_toArray, List.set_cons_zero, List.set_cons_succ]
  refine wpAnyH_take (i := 10) (oi := _) (v := ?_) (by simp only [List.getElem?_toArray, List.getElem?_cons_succ, List.getElem?_cons_zero]; rfl) (by kernel_rfl) (by kernel_rfl) (by kernel_rfl) (by exact fun _ _ _ h => h) (Or.inl ⟨by rfl, ?_⟩) (by assumption) ?_
  rotate_left 1
  · (intro w hSw; (try dsimp only at hSw); go_simp; try with_reducible rfl)
  try simp only [Act.put, List.setIfInBounds_toArray, List.set_cons_zero, List.set_cons_succ]
  refine wpAnyH_take (i := 11) (oi := _) (v := ?_) (by simp only [List.getElem?_toArray, List.getElem?_cons_succ, List.getElem?_cons_zero]; rfl) (by kernel_rfl) (by kernel_rfl) (by kernel_rfl) (by exact fun _ _ _ h => h) (Or.inl ⟨by rfl, ?_⟩) (by assumption) ?_
  rotate_left 1
  · (intro w hSw; (try dsimp only at hSw); go_simp; try with_reducible rfl)
  try simp only [Act.put, List.setIfInBounds_toArray, List.set_cons_zero, List.set_cons_succ]
  refine wpAnyH_take (i := 12) (oi := _) (v := ?_) (by simp only [List.getElem?_toArray, List.getElem?_cons_succ, List.getElem?_cons_zero]; rfl) (by kernel_rfl) (by kernel_rfl) (by kernel_rfl) (by exact fun _ _ _ h => h) (Or.inl ⟨by rfl, ?_⟩) (by assumption) ?_
  rotate_left 1
  · (intro w hSw; (try dsimp only at hSw); go_simp; try with_reducible rfl)
  try simp only [Act.put, List.setIfInBounds_toArray, List.set_cons_zero, List.set_cons_succ]
  refine wpAnyH_take (i := 13) (oi := _) (v := ?_) (by simp only [List.getElem?_toArray, List.getElem?_cons_succ, List.getElem?_cons_zero]; rfl) (by kernel_rfl) (by kernel_rfl) (by kernel_rfl) (by exact fun _ _ _ h => h) (Or.inl ⟨by rfl, ?_⟩) (by assumption) ?_
  rotate_left 1
  · (intro w hSw; (try dsimp only at hSw); go_simp; try with_reducible rfl)
  try simp only [Act.put, List.setIfInBounds_toArray, List.set_cons_zero, List.set_cons_succ]
  refine wpAnyH_take (i := 14) (oi := _) (v := ?_) (by simp only [List.getElem?_toArray, List.getElem?_cons_succ, List.getElem?_cons_zero]; rfl) (by kernel_rfl) (by kernel_rfl) (by kernel_rfl) (by exact fun _ _ _ h => h) (Or.inl ⟨by rfl, ?_⟩) (by assumption) ?_
  rotate_left 1
  · (intro w hSw; (try dsimp only at hSw); go_simp; try with_reducible rfl)
  try simp only [Act.put, List.setIfInBounds_toArray, List.set_cons_zero, List.set_cons_succ]
  refine wpAnyH_take (i := 15) (oi := _) (v := ?_) (by simp only [List.getElem?_toArray, List.getElem?_cons_succ, List.getElem?_cons_zero]; rfl) (by kernel_rfl) (by kernel_rfl) (by kernel_rfl) (by exact fun _ _ _ h => h) (Or.inl ⟨by rfl, ?_⟩) (by assumption) ?_
  rotate_left 1
  · (intro w hSw; (try dsimp only at hSw); go_simp; try with_reducible rfl)
  try simp only [Act.put, List.setIfInBounds_toArray, List.set_cons_zero, List.set_cons_succ]
  refine wpAnyH_take (i := 16) (oi := _) (v := ?_) (by simp only [List.getElem?_toArray, List.getElem?_cons_succ, List.getElem?_cons_zero]; rfl) (by kernel_rfl) (by kernel_rfl) (by kernel_rfl) (by exact fun _ _ _ h => h) (Or.inl ⟨by rfl, ?_⟩) (by assumption) ?_
  rotate_left 1
  · (intro w hSw; (try dsimp only at hSw); go_simp; try with_reducible rfl)
  try simp only [Act.put, List.setIfInBounds_toArray, List.set_cons_zero, List.set_cons_succ]
  refine wpAnyH_take (i := 17) (oi := _) (v := ?_) (by simp only [List.getElem?_toArray, List.getElem?_cons_succ, List.getElem?_cons_zero]; rfl) (by kernel_rfl) (by kernel_rfl) (by kernel_rfl) (by exact fun _ _ _ h => h) (Or.inl ⟨by rfl, ?_⟩) (by assumption) ?_
  rotate_left 1
  · (intro w hSw; (try dsimp only at hSw); go_simp; try with_reducible rfl)
  try simp only [Act.put, List.setIfInBounds_toArray, List.set_cons_zero, List.set_cons_succ]
  refine wpAnyH_take (i := 18) (oi := _) (v := ?_) (by simp only [List.getElem?_toArray, List.getElem?_cons_succ, List.getElem?_cons_zero]; rfl) (by kernel_rfl) (by kernel_rfl) (by kernel_rfl) (by exact fun _ _ _ h => h) (Or.inl ⟨by rfl, ?_⟩) (by assumption) ?_
  rotate_left 1
  · (intro w hSw; (try dsimp only at hSw); go_simp; try with_reducible rfl)
  try simp only [Act.put, List.setIfInBounds_toArray, List.set_cons_zero, List.set_cons_succ]
  refine wpAnyH_take (i := 19) (oi := _) (v := ?_) (by simp only [List.getElem?_toArray, List.getElem?_cons_succ, List.getElem?_cons_zero]; rfl) (by kernel_rfl) (by kernel_rfl) (by kernel_rfl) (by exact fun _ _ _ h => h) (Or.inl ⟨by rfl, ?_⟩) (by assumption) ?_
  rotate_left 1
  · (intro w hSw; (try dsimp only at hSw); go_simp; try with_reducible rfl)
  try simp only [Act.put, List.setIfInBounds_toArray, List.set_cons_zero, List.set_cons_succ]
  refine wpAnyH_take (i := 21) (oi := _) (v := ?_) (by simp only [List.getElem?_toArray, List.getElem?_cons_succ, List.getElem?_cons_zero]; rfl) (by kernel_rfl) (by kernel_rfl) (by kernel_rfl) (by exact fun _ _ _ h => h) (Or.inl ⟨by rfl, ?_⟩) (by assumption) ?_
  rotate_left 1
  · (intro w hSw; (try dsimp only at hSw); go_simp; try with_reducible rfl)
  try simp only [Act.put, List.setIfInBounds_toArray, List.set_cons_zero, List.set_cons_succ]
  refine wpAnyH_take (i := 24) (oi := _) (v := ?_) (by simp only [List.getElem?_toArray, List.getElem?_cons_succ, List.getElem?_cons_zero]; rfl) (by kernel_rfl) (by kernel_rfl) (by kernel_rfl) (by exact fun _ _ _ h => h) (Or.inl ⟨by rfl, ?_⟩) (by assumption) ?_
  rotate_left 1
  · (intro w hSw; (try dsimp only at hSw); go_simp; try with_reducible rfl)
  try simp only [Act.put, List.setIfInBounds_toArray, List.set_cons_zero, List.set_cons_succ]
  refine wpAnyH_ready (rs := [20]) (by kernel_rfl) (by simp) ?_
  refine AllReadyH.cons (o := _) (by simp only [List.getElem?_toArray, List.getElem?_cons_succ, List.getElem?_cons_zero]; rfl) (fun K hK => ?_) AllReadyH.nil
  go_simp
  (go_at_call 39; (with_reducible refine (K10.out _).mono ?_); rintro e w11 ⟨rfl, hb⟩; obtain ⟨hclw11, hfrw11⟩ := bcell hb; have zw11_a : w.heap.size < w11.heap.size := (by first | omega | (have hz := hb.size; (try simp at hz); omega)); have yw11_a : w.heap.size < w11.heap.size + 1 := (by omega); have yyw11_a : w.heap.size < w11.heap.size + 1 + 1 := (by omega); have zw11_x : w3.heap.size < w11.heap.size := (by first | omega | (have hz := hb.size; (try simp at hz); omega)); have yw11_x : w3.heap.size < w11.heap.size + 1 := (by omega); have yyw11_x : w3.heap.size < w11.heap.size + 1 + 1 := (by omega); have zw11_y : w3.heap.size + 1 < w11.heap.size := (by first | omega | (have hz := hb.size; (try simp at hz); omega)); have yw11_y : w3.heap.size + 1 < w11.heap.size + 1 := (by omega); have yyw11_y : w3.heap.size + 1 < w11.heap.size + 1 + 1 := (by omega); have zw11_p : w4.heap.size < w11.heap.size := (by first | omega | (have hz := hb.size; (try simp at hz); omega)); have yw11_p : w4.heap.size < w11.heap.size + 1 := (by omega); have yyw11_p : w4.heap.size < w11.heap.size + 1 + 1 := (by omega); have zw11_one : bX1one < w11.heap.size := (by first | omega | (have hz := hb.size; (try simp at hz); omega)); have yw11_one : bX1one < w11.heap.size + 1 := (by omega); have yyw11_one : bX1one < w11.heap.size + 1 + 1 := (by omega); have zw11_by : bX2by < w11.heap.size := (by first | omega | (have hz := hb.size; (try simp at hz); omega)); have yw11_by : bX2by < w11.heap.size + 1 := (by omega); have yyw11_by : bX2by < w11.heap.size + 1 + 1 := (by omega); have sxw11_0 : R3.heap.size ≤ w11.heap.size := (by first | omega | (have hz := hb.size; (try simp at hz); omega)); have sxw11_w10 : w10.heap.size ≤ w11.heap.size := (by first | omega | (have hz := hb.size; (try simp at hz); omega)); have HBw11 : Hid (Below w.heap.size w w11) := (bl_trans (by repeat (first | with_reducible exact Below.refl _ _ | with_reducible exact Hid.out (by assumption) | with_reducible refine Below.setCell ?_ (by first | (simp; done) | omega | (simp <;> omega)) _ | with_reducible refine bl_al ?_ _ | with_reducible apply Below.drew)) hb); clear hb; clear K10)
  try go_wp2_with fail
  refine hK.out _ _ ?_ (fun hHeldN => ?_)
  · (try dsimp only); (first | (simp [*, go_sem]; done) | (simp [*, go_sem, World.cell?_alloc_past]; done))
  clear hK K hHeld; have hHeld := hHeldN; clear hHeldN
  try simp only [Act.put, List.setIfInBounds_toArray, List.set_cons_zero, List.set_cons_succ]
  refine wpAnyH_ready (rs := [22]) (by kernel_rfl) (by simp) ?_
  refine AllReadyH.cons (o := _) (by simp only [List.getElem?_toArray, List.getElem?_cons_succ, List.getElem?_cons_zero]; rfl) (fun K hK => ?_) AllReadyH.nil
  go_simp
  (go_at_call 39; (with_reducible refine (K21.out _).mono ?_); rintro e w12 ⟨rfl, hb⟩; obtain ⟨hclw12, hfrw12⟩ := bcell hb; have zw12_a : w.heap.size < w12.heap.size := (by first | omega | (have hz := hb.size; (try simp at hz); omega)); have yw12_a : w.heap.size < w12.heap.size + 1 := (by omega); have yyw12_a : w.heap.size < w12.heap.size + 1 + 1 := (by omega); have zw12_x : w3.heap.size < w12.heap.size := (by first | omega | (have hz := hb.size; (try simp at hz); omega)); have yw12_x : w3.heap.size < w12.heap.size + 1 := (by omega); have yyw12_x : w3.heap.size < w12.heap.size + 1 + 1 := (by omega); have zw12_y : w3.heap.size + 1 < w12.heap.size := (by first | omega | (have hz := hb.size; (try simp at hz); omega)); have yw12_y : w3.heap.size + 1 < w12.heap.size + 1 := (by omega); have yyw12_y : w3.heap.size + 1 < w12.heap.size + 1 + 1 := (by omega); have zw12_p : w4.heap.size < w12.heap.size := (by first | omega | (have hz := hb.size; (try simp at hz); omega)); have yw12_p : w4.heap.size < w12.heap.size + 1 := (by omega); have yyw12_p : w4.heap.size < w12.heap.size + 1 + 1 := (by omega); have zw12_one : bX1one < w12.heap.size := (by first | omega | (have hz := hb.size; (try simp at hz); omega)); have yw12_one : bX1one < w12.heap.size + 1 := (by omega); have yyw12_one : bX1one < w12.heap.size + 1 + 1 := (by omega); have zw12_by : bX2by < w12.heap.size := (by first | omega | (have hz := hb.size; (try simp at hz); omega)); have yw12_by : bX2by < w12.heap.size + 1 := (by omega); have yyw12_by : bX2by < w12.heap.size + 1 + 1 := (by omega); have sxw12_0 : R3.heap.size ≤ w12.heap.size := (by first | omega | (have hz := hb.size; (try simp at hz); omega)); have sxw12_w10 : w10.heap.size ≤ w12.heap.size := (by first | omega | (have hz := hb.size; (try simp at hz); omega)); have sxw12_w11 : w11.heap.size ≤ w12.heap.size := (by first | omega | (have hz := hb.size; (try simp at hz); omega)); have HBw12 : Hid (Below w.heap.size w w12) := (bl_trans (by repeat (first | with_reducible exact Below.refl _ _ | with_reducible exact Hid.out (by assumption) | with_reducible refine Below.setCell ?_ (by first | (simp; done) | omega | (simp <;> omega)) _ | with_reducible refine bl_al ?_ _ | with_reducible apply Below.drew)) hb); clear hb; clear K21)
  try go_wp2_with fail
  refine hK.out _ _ ?_ (fun hHeldN => ?_)
  · (try dsimp only); (first | (simp [*, go_sem]; done) | (simp [*, go_sem, World.cell?_alloc_past]; done))
  clear hK K hHeld; have hHeld := hHeldN; clear hHeldN
  try simp only [Act.put, List.setIfInBounds_toArray, List.set_cons_zero, List.set_cons_succ]
  refine wpAnyH_take (i := 23) (oi := _) (v := ?_) (by simp only [List.getElem?_toArray, List.getElem?_cons_succ, List.getElem?_cons_zero]; rfl) (by kernel_rfl) (by kernel_rfl) (by kernel_rfl) (by exact fun _ _ _ h => h) (Or.inl ⟨by rfl, ?_⟩) (by assumption) ?_
  rotate_left 1
  · (intro w hSw; (try dsimp only at hSw); go_simp; try with_reducible rfl)
  try simp only [Act.put, List.setIfInBounds_toArray, List.set_cons_zero, List.set_cons_succ]
  refine wpAnyH_ready (rs := [25]) (by kernel_rfl) (by simp) ?_
  refine AllReadyH.cons (o := _) (by simp only [List.getElem?_toArray, List.getElem?_cons_succ, List.getElem?_cons_zero]; rfl) (fun K hK => ?_) AllReadyH.nil
  go_simp
  (go_at_call 39; (with_reducible refine (K22.out _).mono ?_); rintro e w13 ⟨rfl, hb⟩; obtain ⟨hclw13, hfrw13⟩ := bcell hb; have zw13_a : w.heap.size < w13.heap.size := (by first | omega | (have hz := hb.size; (try simp at hz); omega)); have yw13_a : w.heap.size < w13.heap.size + 1 := (by omega); have yyw13_a : w.heap.size < w13.heap.size + 1 + 1 := (by omega); have zw13_x : w3.heap.size < w13.heap.size := (by first | omega | (have hz := hb.size; (try simp at hz); omega)); have yw13_x : w3.heap.size < w13.heap.size + 1 := (by omega); have yyw13_x : w3.heap.size < w13.heap.size + 1 + 1 := (by omega); have zw13_y : w3.heap.size + 1 < w13.heap.size := (by first | omega | (have hz := hb.size; (try simp at hz); omega)); have yw13_y : w3.heap.size + 1 < w13.heap.size + 1 := (by omega); have yyw13_y : w3.heap.size + 1 < w13.heap.size + 1 + 1 := (by omega); have zw13_p : w4.heap.size < w13.heap.size := (by first | omega | (have hz := hb.size; (try simp at hz); omega)); have yw13_p : w4.heap.size < w13.heap.size + 1 := (by omega); have yyw13_p : w4.heap.size < w13.heap.size + 1 + 1 := (by omega); have zw13_one : bX1one < w13.heap.size := (by first | omega | (have hz := hb.size; (try simp at hz); omega)); have yw13_one : bX1one < w13.heap.size + 1 := (by omega); have yyw13_one : bX1one < w13.heap.size + 1 + 1 := (by omega); have zw13_by : bX2by < w13.heap.size := (by first | omega | (have hz := hb.size; (try simp at hz); omega)); have yw13_by : bX2by < w13.heap.size + 1 := (by omega); have yyw13_by : bX2by < w13.heap.size + 1 + 1 := (by omega); have sxw13_0 : R3.heap.size ≤ w13.heap.size := (by first | omega | (have hz := hb.size; (try simp at hz); omega)); have sxw13_w10 : w10.heap.size ≤ w13.heap.size := (by first | omega | (have hz := hb.size; (try simp at hz); omega)); have sxw13_w11 : w11.heap.size ≤ w13.heap.size := (by first | omega | (have hz := hb.size; (try simp at hz); omega)); have sxw13_w12 : w12.heap.size ≤ w13.heap.size := (by first | omega | (have hz := hb.size; (try simp at hz); omega)); have HBw13 : Hid (Below w.heap.size w w13) := (bl_trans (by repeat (first | with_reducible exact Below.refl _ _ | with_reducible exact Hid.out (by assumption) | with_reducible refine Below.setCell ?_ (by first | (simp; done) | omega | (simp <;> omega)) _ | with_reducible refine bl_al ?_ _ | with_reducible apply Below.drew)) hb); clear hb; clear K22)
  try go_wp2_with fail
  refine hK.out _ _ ?_ (fun hHeldN => ?_)
  · (try dsimp only); (first | (simp [*, go_sem]; done) | (simp [*, go_sem, World.cell?_alloc_past]; done))
  clear hK K hHeld; have hHeld := hHeldN; clear hHeldN
  try simp only [Act.put, List.setIfInBounds_toArray, List.set_cons_zero, List.set_cons_succ]
  refine wpAnyH_take (i := 26) (oi := _) (v := ?_) (by simp only [List.getElem?_toArray, List.getElem?_cons_succ, List.getElem?_cons_zero]; rfl) (by kernel_rfl) (by kernel_rfl) (by kernel_rfl) (by exact fun _ _ _ h => h) (Or.inl ⟨by rfl, ?_⟩) (by assumption) ?_
  rotate_left 1
  · (intro w hSw; (try dsimp only at hSw); go_simp; try with_reducible rfl)
  try simp only [Act.put, List.setIfInBounds_toArray, List.set_cons_zero, List.set_cons_succ]
  refine wpAnyH_take (i := 27) (oi := _) (v := ?_) (by simp only [List.getElem?_toArray, List.getElem?_cons_succ, List.getElem?_cons_zero]; rfl) (by kernel_rfl) (by kernel_rfl) (by kernel_rfl) (by exact fun _ _ _ h => h) (Or.inl ⟨by rfl, ?_⟩) (by assumption) ?_
  rotate_left 1
  · (intro w hSw; (try dsimp only at hSw); go_simp; try with_reducible rfl)
  try simp only [Act.put, List.setIfInBounds_toArray, List.set_cons_zero, List.set_cons_succ]
  refine wpAnyH_take (i := 28) (oi := _) (v := ?_) (by simp only [List.getElem?_toArray, List.getElem?_cons_succ, List.getElem?_cons_zero]; rfl) (by kernel_rfl) (by kernel_rfl) (by kernel_rfl) (by exact fun _ _ _ h => h) (Or.inl ⟨by rfl, ?_⟩) (by assumption) ?_
  rotate_left 1
  · (intro w hSw; (try dsimp only at hSw); go_simp; try with_reducible rfl)
  try simp only [Act.put, List.setIfInBounds_toArray, List.set_cons_zero, List.set_cons_succ]
  refine wpAnyH_take (i := 29) (oi := _) (v := ?_) (by simp only [List.getElem?_toArray, List.getElem?_cons_succ, List.getElem?_cons_zero]; rfl) (by kernel_rfl) (by kernel_rfl) (by kernel_rfl) (by exact fun _ _ _ h => h) (Or.inl ⟨by rfl, ?_⟩) (by assumption) ?_
  rotate_left 1
  · (intro w hSw; (try dsimp only at hSw); go_simp; try with_reducible rfl)
  try simp only [Act.put, List.setIfInBounds_toArray, List.set_cons_zero, List.set_cons_succ]
  refine wpAnyH_take (i := 30) (oi := _) (v := ?_) (by simp only [List.getElem?_toArray, List.getElem?_cons_succ, List.getElem?_cons_zero]; rfl) (by kernel_rfl) (by kernel_rfl) (by kernel_rfl) (by exact fun _ _ _ h => h) (Or.inl ⟨by rfl, ?_⟩) (by assumption) ?_
  rotate_left 1
  · (intro w hSw; (try dsimp only at hSw); go_simp; try with_reducible rfl)
  try simp only [Act.put, List.setIfInBounds_toArray, List.set_cons_zero, List.set_cons_succ]
  refine wpAnyH_ready (rs := [31]) (by kernel_rfl) (by simp) ?_
  refine AllReadyH.cons (o := _) (by simp only [List.getElem?_toArray, List.getElem?_cons_succ, List.getElem?_cons_zero]; rfl) (fun K hK => ?_) AllReadyH.nil
  go_simp
  (go_at_call 39; (with_reducible refine (K11.out _).mono ?_); rintro e w14 ⟨rfl, hb⟩; obtain ⟨hclw14, hfrw14⟩ := bcell hb; have zw14_a : w.heap.size < w14.heap.size := (by first | omega | (have hz := hb.size; (try simp at hz); omega)); have yw14_a : w.heap.size < w14.heap.size + 1 := (by omega); have yyw14_a : w.heap.size < w14.heap.size + 1 + 1 := (by omega); have zw14_x : w3.heap.size < w14.heap.size := (by first | omega | (have hz := hb.size; (try simp at hz); omega)); have yw14_x : w3.heap.size < w14.heap.size + 1 := (by omega); have yyw14_x : w3.heap.size < w14.heap.size + 1 + 1 := (by omega); have zw14_y : w3.heap.size + 1 < w14.heap.size := (by first | omega | (have hz := hb.size; (try simp at hz); omega)); have yw14_y : w3.heap.size + 1 < w14.heap.size + 1 := (by omega); have yyw14_y : w3.heap.size + 1 < w14.heap.size + 1 + 1 := (by omega); have zw14_p : w4.heap.size < w14.heap.size := (by first | omega | (have hz := hb.size; (try simp at hz); omega)); have yw14_p : w4.heap.size < w14.heap.size + 1 := (by omega); have yyw14_p : w4.heap.size < w14.heap.size + 1 + 1 := (by omega); have zw14_one : bX1one < w14.heap.size := (by first | omega | (have hz := hb.size; (try simp at hz); omega)); have yw14_one : bX1one < w14.heap.size + 1 := (by omega); have yyw14_one : bX1one < w14.heap.size + 1 + 1 := (by omega); have zw14_by : bX2by < w14.heap.size := (by first | omega | (have hz := hb.size; (try simp at hz); omega)); have yw14_by : bX2by < w14.heap.size + 1 := (by omega); have yyw14_by : bX2by < w14.heap.size + 1 + 1 := (by omega); have sxw14_0 : R3.heap.size ≤ w14.heap.size := (by first | omega | (have hz := hb.size; (try simp at hz); omega)); have sxw14_w10 : w10.heap.size ≤ w14.heap.size := (by first | omega | (have hz := hb.size; (try simp at hz); omega)); have sxw14_w11 : w11.heap.size ≤ w14.heap.size := (by first | omega | (have hz := hb.size; (try simp at hz); omega)); have sxw14_w12 : w12.heap.size ≤ w14.heap.size := (by first | omega | (have hz := hb.size; (try simp at hz); omega)); have sxw14_w13 : w13.heap.size ≤ w14.heap.size := (by first | omega | (have hz := hb.size; (try simp at hz); omega)); have HBw14 : Hid (Below w.heap.size w w14) := (bl_trans (by repeat (first | with_reducible exact Below.refl _ _ | with_reducible exact Hid.out (by assumption) | with_reducible refine Below.setCell ?_ (by first | (simp; done) | omega | (simp <;> omega)) _ | with_reducible refine bl_al ?_ _ | with_reducible apply Below.drew)) hb); clear hb; clear K11)
  try go_wp2_with fail
  refine hK.out _ _ ?_ (fun hHeldN => ?_)
  · (try dsimp only); (first | (simp [*, go_sem]; done) | (simp [*, go_sem, World.cell?_alloc_past]; done))
  clear hK K hHeld; have hHeld := hHeldN; clear hHeldN
  try simp only [Act.put, List.setIfInBounds_toArray, List.set_cons_zero, List.set_cons_succ]
  refine wpAnyH_take (i := 32) (oi := _) (v := ?_) (by simp only [List.getElem?_toArray, List.getElem?_cons_succ, List.getElem?_cons_zero]; rfl) (by kernel_rfl) (by kernel_rfl) (by kernel_rfl) (by exact fun _ _ _ h => h) (Or.inl ⟨by rfl, ?_⟩) (by assumption) ?_
  rotate_left 1
  · (intro w hSw; (try dsimp only at hSw); go_simp; try with_reducible rfl)
  try simp only [Act.put, List.setIfInBounds_toArray, List.set_cons_zero, List.set_cons_succ]
  refine wpAnyH_take (i := 33) (oi := _) (v := ?_) (by simp only [List.getElem?_toArray, List.getElem?_cons_succ, List.getElem?_cons_zero]; rfl) (by kernel_rfl) (by kernel_rfl) (by kernel_rfl) (by exact fun _ _ _ h => h) (Or.inl ⟨by rfl, ?_⟩) (by assumption) ?_
  rotate_left 1
  · (intro w hSw; (try dsimp only at hSw); go_simp; try with_reducible rfl)
  try simp only [Act.put, List.setIfInBounds_toArray, List.set_cons_zero, List.set_cons_succ]
  refine wpAnyH_done (by kernel_rfl) ?_ _
  clear hHeld
  go_wp2_with fail
  (with_reducible refine (K12.out _).mono ?_); rintro e w15 ⟨rfl, hb⟩; obtain ⟨hclw15, hfrw15⟩ := bcell hb; have zw15_a : w.heap.size < w15.heap.size := (by first | omega | (have hz := hb.size; (try simp at hz); omega)); have yw15_a : w.heap.size < w15.heap.size + 1 := (by omega); have yyw15_a : w.heap.size < w15.heap.size + 1 + 1 := (by omega); have zw15_x : w3.heap.size < w15.heap.size := (by first | omega | (have hz := hb.size; (try simp at hz); omega)); have yw15_x : w3.heap.size < w15.heap.size + 1 := (by omega); have yyw15_x : w3.heap.size < w15.heap.size + 1 + 1 := (by omega); have zw15_y : w3.heap.size + 1 < w15.heap.size := (by first | omega | (have hz := hb.size; (try simp at hz); omega)); have yw15_y : w3.heap.size + 1 < w15.heap.size + 1 := (by omega); have yyw15_y : w3.heap.size + 1 < w15.heap.size + 1 + 1 := (by omega); have zw15_p : w4.heap.size < w15.heap.size := (by first | omega | (have hz := hb.size; (try simp at hz); omega)); have yw15_p : w4.heap.size < w15.heap.size + 1 := (by omega); have yyw15_p : w4.heap.size < w15.heap.size + 1 + 1 := (by omega); have zw15_one : bX1one < w15.heap.size := (by first | omega | (have hz := hb.size; (try simp at hz); omega)); have yw15_one : bX1one < w15.heap.size + 1 := (by omega); have yyw15_one : bX1one < w15.heap.size + 1 + 1 := (by omega); have zw15_by : bX2by < w15.heap.size := (by first | omega | (have hz := hb.size; (try simp at hz); omega)); have yw15_by : bX2by < w15.heap.size + 1 := (by omega); have yyw15_by : bX2by < w15.heap.size + 1 + 1 := (by omega); have zw15_zz : w9.heap.size < w15.heap.size := (by first | omega | (have hz := hb.size; (try simp at hz); omega)); have yw15_zz : w9.heap.size < w15.heap.size + 1 := (by omega); have yyw15_zz : w9.heap.size < w15.heap.size + 1 + 1 := (by omega); have sxw15_0 : w14.heap.size ≤ w15.heap.size := (by first | omega | (have hz := hb.size; (try simp at hz); omega)); have HBw15 : Hid (Below w.heap.size w w15) := (bl_trans (by repeat (first | with_reducible exact Below.refl _ _ | with_reducible exact Hid.out (by assumption) | with_reducible refine Below.setCell ?_ (by first | (simp; done) | omega | (simp <;> omega)) _ | with_reducible refine bl_al ?_ _ | with_reducible apply Below.drew)) hb); clear hb
  go_wp2_with fail
  (with_reducible refine (K30.out _).mono ?_); rintro e w16 ⟨rfl, hb⟩; obtain ⟨hclw16, hfrw16⟩ := bcell hb; have zw16_a : w.heap.size < w16.heap.size := (by first | omega | (have hz := hb.size; (try simp at hz); omega)); have yw16_a : w.heap.size < w16.heap.size + 1 := (by omega); have yyw16_a : w.heap.size < w16.heap.size + 1 + 1 := (by omega); have zw16_x : w3.heap.size < w16.heap.size := (by first | omega | (have hz := hb.size; (try simp at hz); omega)); have yw16_x : w3.heap.size < w16.heap.size + 1 := (by omega); have yyw16_x : w3.heap.size < w16.heap.size + 1 + 1 := (by omega); have zw16_y : w3.heap.size + 1 < w16.heap.size := (by first | omega | (have hz := hb.size; (try simp at hz); omega)); have yw16_y : w3.heap.size + 1 < w16.heap.size + 1 := (by omega); have yyw16_y : w3.heap.size + 1 < w16.heap.size + 1 + 1 := (by omega); have zw16_p : w4.heap.size < w16.heap.size := (by first | omega | (have hz := hb.size; (try simp at hz); omega)); have yw16_p : w4.heap.size < w16.heap.size + 1 := (by omega); have yyw16_p : w4.heap.size < w16.heap.size + 1 + 1 := (by omega); have zw16_one : bX1one < w16.heap.size := (by first | omega | (have hz := hb.size; (try simp at hz); omega)); have yw16_one : bX1one < w16.heap.size + 1 := (by omega); have yyw16_one : bX1one < w16.heap.size + 1 + 1 := (by omega); have zw16_by : bX2by < w16.heap.size := (by first | omega | (have hz := hb.size; (try simp at hz); omega)); have yw16_by : bX2by < w16.heap.size + 1 := (by omega); have yyw16_by : bX2by < w16.heap.size + 1 + 1 := (by omega); have zw16_zz : w9.heap.size < w16.heap.size := (by first | omega | (have hz := hb.size; (try simp at hz); omega)); have yw16_zz : w9.heap.size < w16.heap.size + 1 := (by omega); have yyw16_zz : w9.heap.size < w16.heap.size + 1 + 1 := (by omega); have zw16_q : w15.heap.size < w16.heap.size := (by first | omega | (have hz := hb.size; (try simp at hz); omega)); have yw16_q : w15.heap.size < w16.heap.size + 1 := (by omega); have yyw16_q : w15.heap.size < w16.heap.size + 1 + 1 := (by omega); have sxw16_0 : w15.heap.size + 1 ≤ w16.heap.size := (by first | omega | (have hz := hb.size; (try simp at hz); omega)); have HBw16 : Hid (Below w.heap.size w w16) := (bl_trans (by repeat (first | with_reducible exact Below.refl _ _ | with_reducible exact Hid.out (by assumption) | with_reducible refine Below.setCell ?_ (by first | (simp; done) | omega | (simp <;> omega)) _ | with_reducible refine bl_al ?_ _ | with_reducible apply Below.drew)) hb); clear hb
  go_wp2_with fail
  (with_reducible refine (K13.out _).mono ?_); rintro e w17 ⟨rfl, hb⟩; obtain ⟨hclw17, hfrw17⟩ := bcell hb; have zw17_a : w.heap.size < w17.heap.size := (by first | omega | (have hz := hb.size; (try simp at hz); omega)); have yw17_a : w.heap.size < w17.heap.size + 1 := (by omega); have yyw17_a : w.heap.size < w17.heap.size + 1 + 1 := (by omega); have zw17_x : w3.heap.size < w17.heap.size := (by first | omega | (have hz := hb.size; (try simp at hz); omega)); have yw17_x : w3.heap.size < w17.heap.size + 1 := (by omega); have yyw17_x : w3.heap.size < w17.heap.size + 1 + 1 := (by omega); have zw17_y : w3.heap.size + 1 < w17.heap.size := (by first | omega | (have hz := hb.size; (try simp at hz); omega)); have yw17_y : w3.heap.size + 1 < w17.heap.size + 1 := (by omega); have yyw17_y : w3.heap.size + 1 < w17.heap.size + 1 + 1 := (by omega); have zw17_p : w4.heap.size < w17.heap.size := (by first | omega | (have hz := hb.size; (try simp at hz); omega)); have yw17_p : w4.heap.size < w17.heap.size + 1 := (by omega); have yyw17_p : w4.heap.size < w17.heap.size + 1 + 1 := (by omega); have zw17_one : bX1one < w17.heap.size := (by first | omega | (have hz := hb.size; (try simp at hz); omega)); have yw17_one : bX1one < w17.heap.size + 1 := (by omega); have yyw17_one : bX1one < w17.heap.size + 1 + 1 := (by omega); have zw17_by : bX2by < w17.heap.size := (by first | omega | (have hz := hb.size; (try simp at hz); omega)); have yw17_by : bX2by < w17.heap.size + 1 := (by omega); have yyw17_by : bX2by < w17.heap.size + 1 + 1 := (by omega); have zw17_zz : w9.heap.size < w17.heap.size := (by first | omega | (have hz := hb.size; (try simp at hz); omega)); have yw17_zz : w9.heap.size < w17.heap.size + 1 := (by omega); have yyw17_zz : w9.heap.size < w17.heap.size + 1 + 1 := (by omega); have zw17_q : w15.heap.size < w17.heap.size := (by first | omega | (have hz := hb.size; (try simp at hz); omega)); have yw17_q : w15.heap.size < w17.heap.size + 1 := (by omega); have yyw17_q : w15.heap.size < w17.heap.size + 1 + 1 := (by omega); have sxw17_0 : w16.heap.size ≤ w17.heap.size := (by first | omega | (have hz := hb.size; (try simp at hz); omega)); have HBw17 : Hid (Below w.heap.size w w17) := (bl_trans (by repeat (first | with_reducible exact Below.refl _ _ | with_reducible exact Hid.out (by assumption) | with_reducible refine Below.setCell ?_ (by first | (simp; done) | omega | (simp <;> omega)) _ | with_reducible refine bl_al ?_ _ | with_reducible apply Below.drew)) hb); clear hb
  go_wp2_with fail
  go_returns
  exact ⟨rfl, by repeat (first | with_reducible exact Below.refl _ _ | with_reducible exact Hid.out (by assumption) | with_reducible refine Below.setCell ?_ (by first | (simp; done) | omega | (simp <;> omega)) _ | with_reducible refine bl_al ?_ _ | with_reducible apply Below.drew)⟩
theorem near_int {k : Int} (h : -4611686018427387904 ≤ k) (g : k ≤ 4611686018427387904) : intr k = k * 18446744073709551616 ∧ My (intr k) := by
  have e : intr k = k * 18446744073709551616 := by unfold intr; rw [if_neg (by omega)]
  rw [e]; exact ⟨rfl, by constructor <;> omega⟩
theorem sg_mul (a b : Int) : sg (decide (a < 0) != decide (b < 0)) ((a.natAbs * b.natAbs : Nat) : Int) = a * b := by
  have e := Int.natAbs_mul a b
  rw [← e]
  by_cases ha : a < 0 <;> by_cases hb : b < 0
  · have := Int.mul_nonneg_of_nonpos_of_nonpos (Int.le_of_lt ha) (Int.le_of_lt hb)
    simp [ha, hb, sg]; omega
  · have := Int.mul_nonpos_of_nonpos_of_nonneg (Int.le_of_lt ha) (show 0 ≤ b by omega)
    simp [ha, hb, sg]; omega
  · have := Int.mul_nonpos_of_nonneg_of_nonpos (show 0 ≤ a by omega) (Int.le_of_lt hb)
    simp [ha, hb, sg]; omega
  · have := Int.mul_nonneg (show 0 ≤ a by omega) (show 0 ≤ b by omega)
    simp [ha, hb, sg]; omega
theorem sign_int (a : Int) : decide (a * 18446744073709551616 < 0) = decide (a < 0) := by rw [decide_eq_decide]; omega
theorem mulr_int (a b : Int) : mulr (a * 18446744073709551616) (b * 18446744073709551616) = a * b * 18446744073709551616 := by
  unfold mulr
  have h : ((a * 18446744073709551616).natAbs * (b * 18446744073709551616).natAbs + 9223372036854775808) / 18446744073709551616 = a.natAbs * b.natAbs * 18446744073709551616 := by
    rw [Int.natAbs_mul, Int.natAbs_mul, show (18446744073709551616 : Int).natAbs = 18446744073709551616 from rfl, Nat.mul_mul_mul_comm, ← Nat.mul_assoc]
    generalize a.natAbs * b.natAbs = n
    omega
  rw [h, sign_int, sign_int]
  have := sg_mul a b
  generalize a.natAbs * b.natAbs = n at *
  rw [← this]; unfold sg; split <;> simp <;> omega
theorem mulr_one (x : Int) : mulr x 18446744073709551616 = x := by
  unfold mulr
  have h : (x.natAbs * (18446744073709551616 : Int).natAbs + 9223372036854775808) / 18446744073709551616 = x.natAbs := by
    rw [show (18446744073709551616 : Int).natAbs = 18446744073709551616 from rfl]; omega
  rw [h, show (decide (x < 0) != decide ((18446744073709551616 : Int) < 0)) = decide (x < 0) by simp]
  exact sg_abs x
theorem divr_one (x : Int) : divr x 18446744073709551616 = x := by
  unfold divr
  have h : (x.natAbs * 36893488147419103232 + (18446744073709551616 : Int).natAbs) / (2 * (18446744073709551616 : Int).natAbs) = x.natAbs := by
    rw [show (18446744073709551616 : Int).natAbs = 18446744073709551616 from rfl]; omega
  rw [h, show (decide (x < 0) != decide ((18446744073709551616 : Int) < 0)) = decide (x < 0) by simp]
  exact sg_abs x
theorem divr_int (a b : Int) (hb : b ≠ 0) : divr (a * b * 18446744073709551616) (b * 18446744073709551616) = a * 18446744073709551616 := by
  unfold divr
  have hd : 0 < b.natAbs := by omega
  have h : ((a * b * 18446744073709551616).natAbs * 36893488147419103232 + (b * 18446744073709551616).natAbs) / (2 * (b * 18446744073709551616).natAbs) = a.natAbs * 18446744073709551616 := by
    rw [Int.natAbs_mul, Int.natAbs_mul, Int.natAbs_mul, show (18446744073709551616 : Int).natAbs = 18446744073709551616 from rfl]
    have e : a.natAbs * b.natAbs * 18446744073709551616 * 36893488147419103232 + b.natAbs * 18446744073709551616 = 2 * (b.natAbs * 18446744073709551616) * (a.natAbs * 18446744073709551616) + b.natAbs * 18446744073709551616 := by
      have : a.natAbs * b.natAbs = b.natAbs * a.natAbs := Nat.mul_comm _ _
      rw [this]
      have e2 : 2 * (b.natAbs * 18446744073709551616) * (a.natAbs * 18446744073709551616) = b.natAbs * a.natAbs * (2 * 18446744073709551616 * 18446744073709551616) := by
        rw [← Nat.mul_assoc, Nat.mul_assoc 2, Nat.mul_right_comm b.natAbs, ← Nat.mul_assoc 2, Nat.mul_comm 2 (b.natAbs * a.natAbs)]
        generalize b.natAbs * a.natAbs = n
        omega
      rw [e2]
      generalize b.natAbs * a.natAbs = n
      omega
    rw [e, Nat.mul_add_div (by omega), Nat.div_eq_of_lt (by omega), Nat.add_zero]
  rw [h, sign_int, sign_int]
  have hs : sg (decide (a * b < 0) != decide (b < 0)) ((a.natAbs : Nat) : Int) = a := by
    by_cases ha : a = 0
    · subst ha; unfold sg; simp
    · by_cases h1 : a < 0 <;> by_cases h2 : b < 0
      · have := Int.mul_pos_of_neg_of_neg h1 h2
        unfold sg; rw [decide_eq_false (show ¬ a * b < 0 by omega), decide_eq_true h2]; simp; omega
      · have := Int.mul_neg_of_neg_of_pos h1 (show 0 < b by omega)
        unfold sg; rw [decide_eq_true this, decide_eq_false h2]; simp; omega
      · have := Int.mul_neg_of_pos_of_neg (show 0 < a by omega) h2
        unfold sg; rw [decide_eq_true this, decide_eq_true h2]; simp; omega
      · have := Int.mul_pos (show 0 < a by omega) (show 0 < b by omega)
        unfold sg; rw [decide_eq_false (show ¬ a * b < 0 by omega), decide_eq_false h2]; simp; omega
  generalize (decide (a * b < 0) != decide (b < 0)) = s at *
  rw [← hs]; unfold sg; cases s <;> simp <;> omega
theorem i32_of_wf {x : Int} (h : (Lit.int .i32 x).wf = true) : -2147483648 ≤ x ∧ x < 2147483648 := by
  simp [Lit.wf, IntKind.min, IntKind.max, IntKind.signed, IntKind.bits] at h
  exact ⟨by omega, by omega⟩
theorem prod_32 {m n : Int} (hm : -2147483648 ≤ m ∧ m < 2147483648) (hn : -2147483648 ≤ n ∧ n < 2147483648) : -4611686018427387904 ≤ m * n ∧ m * n ≤ 4611686018427387904 := by
  have h := Nat.mul_le_mul (show m.natAbs ≤ 2147483648 by omega) (show n.natAbs ≤ 2147483648 by omega)
  rw [← Int.natAbs_mul] at h
  omega
theorem fixNear_walk (x m n : Int) (hx : Fx x) (hm0 : (Lit.int .i32 m).wf = true) (hn0 : (Lit.int .i32 n).wf = true) (w : World) :
    Calls Try.prog 7 #[.agg #[.int .i64 (fh x), .int .u64 (fl x)], .int .i32 m, .int .i32 n] w fun e w' => e = .returned (.bool true) ∧ Below w.heap.size w w' := by
  by_cases mx : My x
  · have hm := i32_of_wf hm0; have hn := i32_of_wf hn0
    have hk := prod_32 hm hn
    have im := near_int (k := m) (by omega) (by omega)
    have iN := near_int (k := n) (by omega) (by omega)
    have ik := near_int hk.1 hk.2
    have C4 := fmul_any (intr m) (intr n) im.2 iN.2
    rw [show mulr (intr m) (intr n) = intr (m * n) by rw [im.1, iN.1, ik.1]; exact mulr_int m n, ov_in ik.2, oe_in ik.2] at C4
    have i1 : intr 1 = 18446744073709551616 := by decide
    have m1 : My (intr 1) := by rw [i1]; constructor <;> decide
    have C6 := fmul_any x (intr 1) mx m1
    rw [show mulr x (intr 1) = x by rw [i1]; exact mulr_one x, ov_in mx, oe_in mx] at C6
    have C7 := fdiv_any x (intr 1) mx m1 (by rw [i1]; decide)
    rw [show divr x (intr 1) = x by rw [i1]; exact divr_one x, ov_in mx, oe_in mx] at C7
    have u1 : IntKind.i64.wrap m = m := IntWalk.i64_in _ (by omega)
    have u2 : IntKind.i64.wrap n = n := IntWalk.i64_in _ (by omega)
    have u3 : IntKind.i64.wrap (m * n) = m * n := IntWalk.i64_in _ (by omega)
    have v1 : wrap64 m = m := by unfold wrap64; omega
    have v2 : wrap64 n = n := by unfold wrap64; omega
    by_cases h0 : n = 0
    · subst h0
      rw [Int.mul_zero] at C4
      exact fixNear_zero _ _ _ _ _ _ _ _ _ _ _ u1 v1 w (rmay_true mx) (int_any m) (int_any 0) C4 (int_any 1) C6 C7 (fdiv_none x mx) (int_any 0) (num_any 0) (num_any 2) fawake_true
    · have C12 := fdiv_any (intr (m * n)) (intr n) ik.2 iN.2 (by rw [iN.1]; omega)
      rw [show divr (intr (m * n)) (intr n) = intr m by rw [im.1, iN.1, ik.1]; exact divr_int m n h0, ov_in im.2, oe_in im.2] at C12
      exact fixNear_some _ _ _ _ _ _ _ _ _ _ _ _ _ u1 v1 u2 v2 h0 u3 w (rmay_true mx) (int_any m) (int_any n) C4 (int_any 1) C6 C7 (fdiv_none x mx) (int_any (m * n)) (num_any 0) (num_any 2) C12 fawake_true
  · exact fixNear_out0 _ _ _ _ w (rmay_false hx mx) fawake_true

set_option maxRecDepth 100000 in
theorem fixNear_lifted (os : Os) (started : os.Started) (H : Type) (enc : TypeId × Value → H) :
    ReturnsInHanded {} Try.checked os 7 .any (Rows.fixNearSpec.pre6 enc Try.prog Try.f7 Rows.fixNearRow.domain false) (Rows.fixNearSpec.post enc Try.prog Try.f7 false true false false) := by
  refine returnsInHanded_of_change (C := Try.checked) Try.own started (by kernel_rfl) Try.func7
    (ChangeSpec.witness6 (enc := enc) (C := Try.checked) false ⟨#[], #[.agg #[.int .i64 0, .int .u64 0], .int .i32 0, .int .i32 0], []⟩ 8 (by kernel_rfl) (by kernel_rfl) (by kernel_rfl) (by kernel_rfl)) ?_
  intro W base args ds gs before hval0 hW hcnd _
  have hval : ∀ (j : Nat) t v, Try.f7.params[j]? = some t → args[j]? = some v → Value.okWide Try.prog W .any base t v := hval0
  have hW' := hW
  obtain ⟨p, q, hA0, hV, rfl, hfz, hnd⟩ := hW
  have hA : DataW.TrodAll enc Try.prog W 0 (fun _ => true) true Try.f7.params.toList args.toList ds p := hA0
  rw [Try.params7] at hA hval
  obtain ⟨v0, v1, v2, d0, d1, d2, p0, p1, p2, rfl, rfl, rfl, h0, h1, h2⟩ := trodAll_three hA
  obtain ⟨rfl, rfl⟩ := trodVars_none hV
  obtain ⟨x, rfl, rfl, rfl, k00⟩ := open_fix (hval 0 24 v0 rfl rfl) h0
  obtain ⟨m, rfl, rfl, rfl, k10⟩ := open_int Try.underlying21 (hval 1 21 v1 rfl rfl) h1
  obtain ⟨n, rfl, rfl, rfl, k20⟩ := open_int Try.underlying21 (hval 2 21 v2 rfl rfl) h2
  clear hA0 hval0
  simp only [List.append_nil] at hW'
  refine (fixNear_walk x m n k00 k10 k20 W).mono fun e W' ⟨he, hb⟩ => ?_
  subst he
  exact ⟨_, rfl, _, _, _, [], [], [], hW', trodAll_mk1 (shut_bool Try.underlying4 _), trodAll_mk3 (shut_fix k00) (shut_int Try.underlying21 k10) (shut_int Try.underlying21 k20), rfl, hb.frame _, fun h => by cases h⟩

theorem fixNear_holds : Rows.FixNearSaid :=
  OpenClaim.holds_of_wide 7 Try.f7 rfl rfl rfl rfl rfl rfl rfl ⟨rfl, rfl, rfl, rfl, rfl⟩ rfl rfl rfl rfl rfl (by kernel_rfl) Try.func7 (by kernel_rfl)
    (of_decide_eq_true (by kernel_rfl)) (by unfold Func.isWrapper; first | (rw [if_pos (by decide +kernel)]; kernel_rfl) | (rw [if_neg (by decide +kernel)]; exact ⟨rfl, rfl⟩))
    (fun os started H enc _ => fixNear_lifted os started H enc)
end Go.Proofs.Ytjiipbmnagpejaa
