/- The document's halves, roundings, roots. -/
import Derived.Test.YtmelipbanbihdaaRefFix2
namespace Go.Proofs.Ytmelipbanbihdaa
open Go.RowKit

set_option maxRecDepth 20000 in
set_option maxHeartbeats 8000000 in
theorem rhalf_core (h l d1 d0 m1 m0 t3 t2 t1 t0 g1 g0 k : Int) (c b : Bool) (hb : decide (h < 0) = b) (w : World)
    (C1 : ∀ W, Calls Try.prog 24 #[.agg #[.int .i64 h, .int .u64 l]] W fun e w' => e = .returned (.agg #[.int .u64 d1, .int .u64 d0]) ∧ Below W.heap.size W w')
    (C2 : ∀ W, Calls Try.prog 41 #[.agg #[.int .u64 d1, .int .u64 d0], .agg #[.int .u64 0, .int .u64 1]] W fun e w' => e = .returned (.agg #[.int .u64 m1, .int .u64 m0, .bool c]) ∧ Below W.heap.size W w')
    (C3 : ∀ W, Calls Try.prog 43 #[.agg #[.int .u64 0, .int .u64 0, .int .u64 m1, .int .u64 m0], .int .i64 1] W fun e w' => e = .returned (.agg #[.int .u64 t3, .int .u64 t2, .int .u64 t1, .int .u64 t0]) ∧ Below W.heap.size W w')
    (C4 : ∀ W, Calls Try.prog 42 #[.bool b, .agg #[.int .u64 t3, .int .u64 t2, .int .u64 t1, .int .u64 t0]] W fun e w' => e = .returned (.agg #[.int .i64 g1, .int .u64 g0, .int .i64 k]) ∧ Below W.heap.size W w') :
    Calls Try.prog 37 #[.agg #[.int .i64 h, .int .u64 l]] w fun e w' => e = .returned (.agg #[.int .i64 g1, .int .u64 g0]) ∧ Below w.heap.size w w' := by
  have K1 := Lib.hid C1; have K2 := Lib.hid C2; have K3 := Lib.hid C3; have K4 := Lib.hid C4
  clear C1 C2 C3 C4
  have fld := field_sum; have fld2 := field_got
  go_enter Try.func37, Try.ntmps37
  go_upto_region 1 with fail
  refine name_world (P := fun W => Code.wp _ _ _ _ W) _ (fun R1 hR1 => ?_)
  have zR1_a : w.heap.size < R1.heap.size := by rw [hR1]; first | omega | (simp <;> omega)
  have yR1_a : w.heap.size < R1.heap.size + 1 := by omega
  have yyR1_a : w.heap.size < R1.heap.size + 1 + 1 := by omega
  have cR1_a_0 : R1.cell? ⟨w.heap.size, 0, none⟩ = some (.int .i64 h) := by rw [hR1]; first | assumption | (simp [go_sem, *]; done)
  have cR1_a_1 : R1.cell? ⟨w.heap.size, 1, none⟩ = some (.int .u64 l) := by rw [hR1]; first | assumption | (simp [go_sem, *]; done)
  have zR1_r : w.heap.size + 1 < R1.heap.size := by rw [hR1]; first | omega | (simp <;> omega)
  have yR1_r : w.heap.size + 1 < R1.heap.size + 1 := by omega
  have yyR1_r : w.heap.size + 1 < R1.heap.size + 1 + 1 := by omega
  have cR1_r_0 : R1.cell? ⟨w.heap.size + 1, 0, none⟩ = some (.int .i64 0) := by rw [hR1]; first | assumption | (simp [go_sem, *]; done)
  have cR1_r_1 : R1.cell? ⟨w.heap.size + 1, 1, none⟩ = some (.int .u64 0) := by rw [hR1]; first | assumption | (simp [go_sem, *]; done)
  have fR1_r : ∀ j, R1.frozen? ⟨w.heap.size + 1, j, none⟩ = false := fun j => by rw [hR1]; first | (simp [go_sem, *]; done) | (simp only [frozen?_alloc_cells]; rw [hfrw0 _ _ (by first | omega | (simp <;> omega))]; simp [frozen?_alloc_cells, World.frozen?]; done) | (simp [frozen?_alloc_cells, World.frozen?, *]; done)
  have lo_r : w.heap.size ≤ w.heap.size + 1 := by omega
  have na_r_a : ¬ (w.heap.size + 1 = w.heap.size) := by omega
  have nb_r_a : ¬ (w.heap.size = w.heap.size + 1) := by omega
  have HBR1 : Hid (Below w.heap.size w R1) := by rw [hR1]; show Below _ _ _; exact (by repeat (first | with_reducible exact Below.refl _ _ | with_reducible exact Hid.out (by assumption) | with_reducible refine Below.setCell ?_ (by first | (simp; done) | omega | (simp <;> omega)) _ | with_reducible refine bl_al ?_ _ | with_reducible apply Below.drew))
  clear hR1
  go_wp2_with fail
  (with_reducible refine (K1.out _).mono ?_); rintro e w1 ⟨rfl, hb⟩; obtain ⟨hclw1, hfrw1⟩ := bcell hb; have zw1_a : w.heap.size < w1.heap.size := (by first | omega | (have hz := hb.size; (try simp at hz); omega)); have yw1_a : w.heap.size < w1.heap.size + 1 := (by omega); have yyw1_a : w.heap.size < w1.heap.size + 1 + 1 := (by omega); have zw1_r : w.heap.size + 1 < w1.heap.size := (by first | omega | (have hz := hb.size; (try simp at hz); omega)); have yw1_r : w.heap.size + 1 < w1.heap.size + 1 := (by omega); have yyw1_r : w.heap.size + 1 < w1.heap.size + 1 + 1 := (by omega); have sxw1_0 : R1.heap.size ≤ w1.heap.size := (by first | omega | (have hz := hb.size; (try simp at hz); omega)); have HBw1 : Hid (Below w.heap.size w w1) := (bl_trans (by repeat (first | with_reducible exact Below.refl _ _ | with_reducible exact Hid.out (by assumption) | with_reducible refine Below.setCell ?_ (by first | (simp; done) | omega | (simp <;> omega)) _ | with_reducible refine bl_al ?_ _ | with_reducible apply Below.drew)) hb); clear hb
  have fw1_r : ∀ j, w1.frozen? ⟨w.heap.size + 1, j, none⟩ = false := fun j => by rw [hfrw1 _ _ (by first | exact zR1_r | (simp; exact zR1_r))]; exact fR1_r j
  go_wp2_with fail
  (with_reducible refine (K2.out _).mono ?_); rintro e w2 ⟨rfl, hb⟩; obtain ⟨hclw2, hfrw2⟩ := bcell hb; have zw2_a : w.heap.size < w2.heap.size := (by first | omega | (have hz := hb.size; (try simp at hz); omega)); have yw2_a : w.heap.size < w2.heap.size + 1 := (by omega); have yyw2_a : w.heap.size < w2.heap.size + 1 + 1 := (by omega); have zw2_r : w.heap.size + 1 < w2.heap.size := (by first | omega | (have hz := hb.size; (try simp at hz); omega)); have yw2_r : w.heap.size + 1 < w2.heap.size + 1 := (by omega); have yyw2_r : w.heap.size + 1 < w2.heap.size + 1 + 1 := (by omega); have sxw2_0 : w1.heap.size ≤ w2.heap.size := (by first | omega | (have hz := hb.size; (try simp at hz); omega)); have HBw2 : Hid (Below w.heap.size w w2) := (bl_trans (by repeat (first | with_reducible exact Below.refl _ _ | with_reducible exact Hid.out (by assumption) | with_reducible refine Below.setCell ?_ (by first | (simp; done) | omega | (simp <;> omega)) _ | with_reducible refine bl_al ?_ _ | with_reducible apply Below.drew)) hb); clear hb
  go_upto_region 2 with fail
  refine name_world (P := fun W => Code.wp _ _ _ _ W) _ (fun R2 hR2 => ?_)
  have zR2_a : w.heap.size < R2.heap.size := by rw [hR2]; first | omega | (simp <;> omega)
  have yR2_a : w.heap.size < R2.heap.size + 1 := by omega
  have yyR2_a : w.heap.size < R2.heap.size + 1 + 1 := by omega
  have cR2_a_0 : R2.cell? ⟨w.heap.size, 0, none⟩ = some (.int .i64 h) := by rw [hR2]; first | assumption | (simp [go_sem, *]; done)
  have cR2_a_1 : R2.cell? ⟨w.heap.size, 1, none⟩ = some (.int .u64 l) := by rw [hR2]; first | assumption | (simp [go_sem, *]; done)
  have zR2_r : w.heap.size + 1 < R2.heap.size := by rw [hR2]; first | omega | (simp <;> omega)
  have yR2_r : w.heap.size + 1 < R2.heap.size + 1 := by omega
  have yyR2_r : w.heap.size + 1 < R2.heap.size + 1 + 1 := by omega
  have cR2_r_0 : R2.cell? ⟨w.heap.size + 1, 0, none⟩ = some (.int .i64 0) := by rw [hR2]; first | assumption | (simp [go_sem, *]; done)
  have cR2_r_1 : R2.cell? ⟨w.heap.size + 1, 1, none⟩ = some (.int .u64 0) := by rw [hR2]; first | assumption | (simp [go_sem, *]; done)
  have fR2_r : ∀ j, R2.frozen? ⟨w.heap.size + 1, j, none⟩ = false := fun j => by rw [hR2]; first | (simp [go_sem, *]; done) | (simp only [frozen?_alloc_cells]; rw [hfrw2 _ _ (by first | omega | (simp <;> omega))]; simp [frozen?_alloc_cells, World.frozen?]; done) | (simp [frozen?_alloc_cells, World.frozen?, *]; done)
  have zR2_m : w2.heap.size < R2.heap.size := by rw [hR2]; first | omega | (simp <;> omega)
  have yR2_m : w2.heap.size < R2.heap.size + 1 := by omega
  have yyR2_m : w2.heap.size < R2.heap.size + 1 + 1 := by omega
  have cR2_m_0 : R2.cell? ⟨w2.heap.size, 0, none⟩ = some (.int .u64 m1) := by rw [hR2]; first | assumption | (simp [go_sem, *]; done)
  have cR2_m_1 : R2.cell? ⟨w2.heap.size, 1, none⟩ = some (.int .u64 m0) := by rw [hR2]; first | assumption | (simp [go_sem, *]; done)
  have na_r_m : ¬ (w.heap.size + 1 = w2.heap.size) := by omega
  have nb_r_m : ¬ (w2.heap.size = w.heap.size + 1) := by omega
  have HBR2 : Hid (Below w.heap.size w R2) := by rw [hR2]; show Below _ _ _; exact (by repeat (first | with_reducible exact Below.refl _ _ | with_reducible exact Hid.out (by assumption) | with_reducible refine Below.setCell ?_ (by first | (simp; done) | omega | (simp <;> omega)) _ | with_reducible refine bl_al ?_ _ | with_reducible apply Below.drew))
  clear hR2
  clear zR1_a yR1_a yyR1_a cR1_a_0 cR1_a_1 zR1_r yR1_r yyR1_r cR1_r_0 cR1_r_1 fR1_r HBR1 zw1_a yw1_a yyw1_a zw1_r yw1_r yyw1_r sxw1_0 hclw1 hfrw1 HBw1 fw1_r zw2_a yw2_a yyw2_a zw2_r yw2_r yyw2_r sxw2_0 hclw2 hfrw2 HBw2
  go_region_held3 (fun w' => w'.cell? ⟨w.heap.size, 0, none⟩ = some (.int .i64 h) ∧ w'.cell? ⟨w.heap.size, 1, none⟩ = some (.int .u64 l) ∧ w'.cell? ⟨w2.heap.size, 0, none⟩ = some (.int .u64 m1) ∧ w'.cell? ⟨w2.heap.size, 1, none⟩ = some (.int .u64 m0)) (first | (simp [*, go_sem]; done) | (simp [*, go_sem, World.cell?_alloc_past]; done))
    (first
      | (go_at_call 43; (with_reducible refine (K3.out _).mono ?_); rintro e w3 ⟨rfl, hb⟩; (first | (with_reducible (obtain ⟨hclw3, hfrw3⟩ := bcell_drew hb)) | (obtain ⟨hclw3, hfrw3⟩ := bcell hb)); have zw3_a : w.heap.size < w3.heap.size := (by first | omega | (have hz := hb.size; (try simp at hz); omega)); have yw3_a : w.heap.size < w3.heap.size + 1 := (by omega); have yyw3_a : w.heap.size < w3.heap.size + 1 + 1 := (by omega); have zw3_r : w.heap.size + 1 < w3.heap.size := (by first | omega | (have hz := hb.size; (try simp at hz); omega)); have yw3_r : w.heap.size + 1 < w3.heap.size + 1 := (by omega); have yyw3_r : w.heap.size + 1 < w3.heap.size + 1 + 1 := (by omega); have zw3_m : w2.heap.size < w3.heap.size := (by first | omega | (have hz := hb.size; (try simp at hz); omega)); have yw3_m : w2.heap.size < w3.heap.size + 1 := (by omega); have yyw3_m : w2.heap.size < w3.heap.size + 1 + 1 := (by omega); have sxw3_0 : R2.heap.size ≤ w3.heap.size := (by first | omega | (have hz := hb.size; (try simp at hz); omega)); have HBw3 : Hid (Below w.heap.size w w3) := (bl_trans (by repeat (first | with_reducible exact Below.refl _ _ | with_reducible exact Hid.out (by assumption) | with_reducible refine Below.setCell ?_ (by first | (simp; done) | omega | (simp <;> omega)) _ | with_reducible refine bl_al ?_ _ | with_reducible apply Below.drew)) hb); clear hb; clear K3)
      | (go_at_call 42; (with_reducible refine (K4.out _).mono ?_); rintro e w4 ⟨rfl, hb⟩; obtain ⟨hclw4, hfrw4⟩ := bcell hb; have zw4_a : w.heap.size < w4.heap.size := (by first | omega | (have hz := hb.size; (try simp at hz); omega)); have yw4_a : w.heap.size < w4.heap.size + 1 := (by omega); have yyw4_a : w.heap.size < w4.heap.size + 1 + 1 := (by omega); have zw4_r : w.heap.size + 1 < w4.heap.size := (by first | omega | (have hz := hb.size; (try simp at hz); omega)); have yw4_r : w.heap.size + 1 < w4.heap.size + 1 := (by omega); have yyw4_r : w.heap.size + 1 < w4.heap.size + 1 + 1 := (by omega); have zw4_m : w2.heap.size < w4.heap.size := (by first | omega | (have hz := hb.size; (try simp at hz); omega)); have yw4_m : w2.heap.size < w4.heap.size + 1 := (by omega); have yyw4_m : w2.heap.size < w4.heap.size + 1 + 1 := (by omega); have sxw4_0 : R2.heap.size ≤ w4.heap.size := (by first | omega | (have hz := hb.size; (try simp at hz); omega)); have sxw4_w3 : w3.heap.size ≤ w4.heap.size := (by first | omega | (have hz := hb.size; (try simp at hz); omega)); have HBw4 : Hid (Below w.heap.size w w4) := (bl_trans (by repeat (first | with_reducible exact Below.refl _ _ | with_reducible exact Hid.out (by assumption) | with_reducible refine Below.setCell ?_ (by first | (simp; done) | omega | (simp <;> omega)) _ | with_reducible refine bl_al ?_ _ | with_reducible apply Below.drew)) hb); clear hb; clear K4))
  rename_i hHeld
  clear hHeld
  go_wp2_with fail
  refine bodyPost_ret (by simp [results, Try.results37, go_sem, *]; try rfl) rfl ?_
  exact ⟨rfl, by repeat (first | with_reducible exact Below.refl _ _ | with_reducible exact Hid.out (by assumption) | with_reducible refine Below.setCell ?_ (by first | (simp; done) | omega | (simp <;> omega)) _ | with_reducible refine bl_al ?_ _ | with_reducible apply Below.drew)⟩
set_option maxRecDepth 20000 in
set_option maxHeartbeats 8000000 in
theorem rsqrt_none (h l : Int) (hlt : h < 0) (w : World) :
    Calls Try.prog 36 #[.agg #[.int .i64 h, .int .u64 l]] w fun e w' => e = .returned (.agg #[.int .i64 0, .int .u64 0, .int .i64 1]) ∧ Below w.heap.size w w' := by
  go_enter Try.func36, Try.ntmps36
  go_wp2_with fail
  refine bodyPost_ret (by simp [results, Try.results36, go_sem, *]; try rfl) rfl ?_
  exact ⟨rfl, by repeat (first | with_reducible exact Below.refl _ _ | with_reducible exact Hid.out (by assumption) | with_reducible refine Below.setCell ?_ (by first | (simp; done) | omega | (simp <;> omega)) _ | with_reducible refine bl_al ?_ _ | with_reducible apply Below.drew)⟩
set_option maxRecDepth 20000 in
set_option maxHeartbeats 8000000 in
theorem rsqrt_core (h l d1 d0 s3 s2 s1 s0 r1 r0 g1 g0 k : Int) (hlt : ¬ h < 0) (w : World)
    (C1 : ∀ W, Calls Try.prog 24 #[.agg #[.int .i64 h, .int .u64 l]] W fun e w' => e = .returned (.agg #[.int .u64 d1, .int .u64 d0]) ∧ Below W.heap.size W w')
    (C2 : ∀ W, Calls Try.prog 55 #[.agg #[.int .u64 0, .int .u64 0, .int .u64 d1, .int .u64 d0], .int .i64 64] W fun e w' => e = .returned (.agg #[.int .u64 s3, .int .u64 s2, .int .u64 s1, .int .u64 s0]) ∧ Below W.heap.size W w')
    (C3 : ∀ W, Calls Try.prog 54 #[.agg #[.int .u64 s3, .int .u64 s2, .int .u64 s1, .int .u64 s0]] W fun e w' => e = .returned (.agg #[.int .u64 r1, .int .u64 r0]) ∧ Below W.heap.size W w')
    (C4 : ∀ W, Calls Try.prog 42 #[.bool false, .agg #[.int .u64 0, .int .u64 0, .int .u64 r1, .int .u64 r0]] W fun e w' => e = .returned (.agg #[.int .i64 g1, .int .u64 g0, .int .i64 k]) ∧ Below W.heap.size W w') :
    Calls Try.prog 36 #[.agg #[.int .i64 h, .int .u64 l]] w fun e w' => e = .returned (.agg #[.int .i64 g1, .int .u64 g0, .int .i64 k]) ∧ Below w.heap.size w w' := by
  have K1 := Lib.hid C1; have K2 := Lib.hid C2; have K3 := Lib.hid C3; have K4 := Lib.hid C4
  clear C1 C2 C3 C4
  go_enter Try.func36, Try.ntmps36
  go_upto_region 3 with fail
  refine name_world (P := fun W => Code.wp _ _ _ _ W) _ (fun R1 hR1 => ?_)
  have zR1_a : w.heap.size < R1.heap.size := by rw [hR1]; first | omega | (simp <;> omega)
  have yR1_a : w.heap.size < R1.heap.size + 1 := by omega
  have yyR1_a : w.heap.size < R1.heap.size + 1 + 1 := by omega
  have cR1_a_0 : R1.cell? ⟨w.heap.size, 0, none⟩ = some (.int .i64 h) := by rw [hR1]; first | assumption | (simp [go_sem, *]; done)
  have cR1_a_1 : R1.cell? ⟨w.heap.size, 1, none⟩ = some (.int .u64 l) := by rw [hR1]; first | assumption | (simp [go_sem, *]; done)
  have zR1_r : w.heap.size + 1 < R1.heap.size := by rw [hR1]; first | omega | (simp <;> omega)
  have yR1_r : w.heap.size + 1 < R1.heap.size + 1 := by omega
  have yyR1_r : w.heap.size + 1 < R1.heap.size + 1 + 1 := by omega
  have cR1_r_0 : R1.cell? ⟨w.heap.size + 1, 0, none⟩ = some (.int .i64 0) := by rw [hR1]; first | assumption | (simp [go_sem, *]; done)
  have cR1_r_1 : R1.cell? ⟨w.heap.size + 1, 1, none⟩ = some (.int .u64 0) := by rw [hR1]; first | assumption | (simp [go_sem, *]; done)
  have cR1_r_2 : R1.cell? ⟨w.heap.size + 1, 2, none⟩ = some (.int .i64 0) := by rw [hR1]; first | assumption | (simp [go_sem, *]; done)
  have fR1_r : ∀ j, R1.frozen? ⟨w.heap.size + 1, j, none⟩ = false := fun j => by rw [hR1]; first | (simp [go_sem, *]; done) | (simp only [frozen?_alloc_cells]; rw [hfrw0 _ _ (by first | omega | (simp <;> omega))]; simp [frozen?_alloc_cells, World.frozen?]; done) | (simp [frozen?_alloc_cells, World.frozen?, *]; done)
  have lo_r : w.heap.size ≤ w.heap.size + 1 := by omega
  have na_r_a : ¬ (w.heap.size + 1 = w.heap.size) := by omega
  have nb_r_a : ¬ (w.heap.size = w.heap.size + 1) := by omega
  have HBR1 : Hid (Below w.heap.size w R1) := by rw [hR1]; show Below _ _ _; exact (by repeat (first | with_reducible exact Below.refl _ _ | with_reducible exact Hid.out (by assumption) | with_reducible refine Below.setCell ?_ (by first | (simp; done) | omega | (simp <;> omega)) _ | with_reducible refine bl_al ?_ _ | with_reducible apply Below.drew))
  clear hR1
  go_wp2_with fail
  (with_reducible refine (K1.out _).mono ?_); rintro e w1 ⟨rfl, hb⟩; obtain ⟨hclw1, hfrw1⟩ := bcell hb; have zw1_a : w.heap.size < w1.heap.size := (by first | omega | (have hz := hb.size; (try simp at hz); omega)); have yw1_a : w.heap.size < w1.heap.size + 1 := (by omega); have yyw1_a : w.heap.size < w1.heap.size + 1 + 1 := (by omega); have zw1_r : w.heap.size + 1 < w1.heap.size := (by first | omega | (have hz := hb.size; (try simp at hz); omega)); have yw1_r : w.heap.size + 1 < w1.heap.size + 1 := (by omega); have yyw1_r : w.heap.size + 1 < w1.heap.size + 1 + 1 := (by omega); have sxw1_0 : R1.heap.size ≤ w1.heap.size := (by first | omega | (have hz := hb.size; (try simp at hz); omega)); have HBw1 : Hid (Below w.heap.size w w1) := (bl_trans (by repeat (first | with_reducible exact Below.refl _ _ | with_reducible exact Hid.out (by assumption) | with_reducible refine Below.setCell ?_ (by first | (simp; done) | omega | (simp <;> omega)) _ | with_reducible refine bl_al ?_ _ | with_reducible apply Below.drew)) hb); clear hb
  have fw1_r : ∀ j, w1.frozen? ⟨w.heap.size + 1, j, none⟩ = false := fun j => by rw [hfrw1 _ _ (by first | exact zR1_r | (simp; exact zR1_r))]; exact fR1_r j
  go_wp2_with fail
  (with_reducible refine (K2.out _).mono ?_); rintro e w2 ⟨rfl, hb⟩; obtain ⟨hclw2, hfrw2⟩ := bcell hb; have zw2_a : w.heap.size < w2.heap.size := (by first | omega | (have hz := hb.size; (try simp at hz); omega)); have yw2_a : w.heap.size < w2.heap.size + 1 := (by omega); have yyw2_a : w.heap.size < w2.heap.size + 1 + 1 := (by omega); have zw2_r : w.heap.size + 1 < w2.heap.size := (by first | omega | (have hz := hb.size; (try simp at hz); omega)); have yw2_r : w.heap.size + 1 < w2.heap.size + 1 := (by omega); have yyw2_r : w.heap.size + 1 < w2.heap.size + 1 + 1 := (by omega); have sxw2_0 : w1.heap.size ≤ w2.heap.size := (by first | omega | (have hz := hb.size; (try simp at hz); omega)); have HBw2 : Hid (Below w.heap.size w w2) := (bl_trans (by repeat (first | with_reducible exact Below.refl _ _ | with_reducible exact Hid.out (by assumption) | with_reducible refine Below.setCell ?_ (by first | (simp; done) | omega | (simp <;> omega)) _ | with_reducible refine bl_al ?_ _ | with_reducible apply Below.drew)) hb); clear hb
  go_wp2_with fail
  (with_reducible refine (K3.out _).mono ?_); rintro e w3 ⟨rfl, hb⟩; obtain ⟨hclw3, hfrw3⟩ := bcell hb; have zw3_a : w.heap.size < w3.heap.size := (by first | omega | (have hz := hb.size; (try simp at hz); omega)); have yw3_a : w.heap.size < w3.heap.size + 1 := (by omega); have yyw3_a : w.heap.size < w3.heap.size + 1 + 1 := (by omega); have zw3_r : w.heap.size + 1 < w3.heap.size := (by first | omega | (have hz := hb.size; (try simp at hz); omega)); have yw3_r : w.heap.size + 1 < w3.heap.size + 1 := (by omega); have yyw3_r : w.heap.size + 1 < w3.heap.size + 1 + 1 := (by omega); have sxw3_0 : w2.heap.size ≤ w3.heap.size := (by first | omega | (have hz := hb.size; (try simp at hz); omega)); have HBw3 : Hid (Below w.heap.size w w3) := (bl_trans (by repeat (first | with_reducible exact Below.refl _ _ | with_reducible exact Hid.out (by assumption) | with_reducible refine Below.setCell ?_ (by first | (simp; done) | omega | (simp <;> omega)) _ | with_reducible refine bl_al ?_ _ | with_reducible apply Below.drew)) hb); clear hb
  go_wp2_with fail
  (with_reducible refine (K4.out _).mono ?_); rintro e w4 ⟨rfl, hb⟩; obtain ⟨hclw4, hfrw4⟩ := bcell hb; have zw4_a : w.heap.size < w4.heap.size := (by first | omega | (have hz := hb.size; (try simp at hz); omega)); have yw4_a : w.heap.size < w4.heap.size + 1 := (by omega); have yyw4_a : w.heap.size < w4.heap.size + 1 + 1 := (by omega); have zw4_r : w.heap.size + 1 < w4.heap.size := (by first | omega | (have hz := hb.size; (try simp at hz); omega)); have yw4_r : w.heap.size + 1 < w4.heap.size + 1 := (by omega); have yyw4_r : w.heap.size + 1 < w4.heap.size + 1 + 1 := (by omega); have sxw4_0 : w3.heap.size ≤ w4.heap.size := (by first | omega | (have hz := hb.size; (try simp at hz); omega)); have HBw4 : Hid (Below w.heap.size w w4) := (bl_trans (by repeat (first | with_reducible exact Below.refl _ _ | with_reducible exact Hid.out (by assumption) | with_reducible refine Below.setCell ?_ (by first | (simp; done) | omega | (simp <;> omega)) _ | with_reducible refine bl_al ?_ _ | with_reducible apply Below.drew)) hb); clear hb
  go_wp2_with fail
  refine bodyPost_ret (by simp [results, Try.results36, go_sem, *]; try rfl) rfl ?_
  exact ⟨rfl, by repeat (first | with_reducible exact Below.refl _ _ | with_reducible exact Hid.out (by assumption) | with_reducible refine Below.setCell ?_ (by first | (simp; done) | omega | (simp <;> omega)) _ | with_reducible refine bl_al ?_ _ | with_reducible apply Below.drew)⟩
end Go.Proofs.Ytmelipbanbihdaa
