/- What is left of one wide number without another; nought, where there is not as much. -/
import Derived.Test.YtgcblfaommhpbaaRefTwo
import Derived.Test.YtgcblfaommhpbaaRefWords
namespace Go.Proofs.Ytgcblfaommhpbaa
open Go.RowKit

set_option maxRecDepth 20000 in
set_option maxHeartbeats 60000000 in
theorem minus_le (a3 a2 a1 a0 b3 b2 b1 b0 c : Int) (hc : c ≤ 0) (w : World)
    (C1 : ∀ W, Calls Try.prog 24 #[.agg #[.int .u64 a3, .int .u64 a2, .int .u64 a1, .int .u64 a0], .agg #[.int .u64 b3, .int .u64 b2, .int .u64 b1, .int .u64 b0]] W fun e w' => e = .returned (.int .i64 c) ∧ Below W.heap.size W w') :
    Calls Try.prog 59 #[.agg #[.int .u64 a3, .int .u64 a2, .int .u64 a1, .int .u64 a0], .agg #[.int .u64 b3, .int .u64 b2, .int .u64 b1, .int .u64 b0]] w fun e w' => e = .returned (.agg #[.int .u64 0, .int .u64 0, .int .u64 0, .int .u64 0]) ∧ Below w.heap.size w w' := by
  have K1 := Lib.hid C1
  clear C1
  go_enter Try.func59, Try.ntmps59
  go_upto_region 1 with fail
  refine name_world (P := fun W => Code.wp _ _ _ _ W) _ (fun R1 hR1 => ?_)
  have zR1_a : w.heap.size < R1.heap.size := by rw [hR1]; first | omega | (simp <;> omega)
  have yR1_a : w.heap.size < R1.heap.size + 1 := by omega
  have yyR1_a : w.heap.size < R1.heap.size + 1 + 1 := by omega
  have cR1_a_0 : R1.cell? ⟨w.heap.size, 0, none⟩ = some (.int .u64 a3) := by rw [hR1]; first | assumption | (simp [go_sem, *]; done)
  have cR1_a_1 : R1.cell? ⟨w.heap.size, 1, none⟩ = some (.int .u64 a2) := by rw [hR1]; first | assumption | (simp [go_sem, *]; done)
  have cR1_a_2 : R1.cell? ⟨w.heap.size, 2, none⟩ = some (.int .u64 a1) := by rw [hR1]; first | assumption | (simp [go_sem, *]; done)
  have cR1_a_3 : R1.cell? ⟨w.heap.size, 3, none⟩ = some (.int .u64 a0) := by rw [hR1]; first | assumption | (simp [go_sem, *]; done)
  have zR1_b : w.heap.size + 1 < R1.heap.size := by rw [hR1]; first | omega | (simp <;> omega)
  have yR1_b : w.heap.size + 1 < R1.heap.size + 1 := by omega
  have yyR1_b : w.heap.size + 1 < R1.heap.size + 1 + 1 := by omega
  have cR1_b_0 : R1.cell? ⟨w.heap.size + 1, 0, none⟩ = some (.int .u64 b3) := by rw [hR1]; first | assumption | (simp [go_sem, *]; done)
  have cR1_b_1 : R1.cell? ⟨w.heap.size + 1, 1, none⟩ = some (.int .u64 b2) := by rw [hR1]; first | assumption | (simp [go_sem, *]; done)
  have cR1_b_2 : R1.cell? ⟨w.heap.size + 1, 2, none⟩ = some (.int .u64 b1) := by rw [hR1]; first | assumption | (simp [go_sem, *]; done)
  have cR1_b_3 : R1.cell? ⟨w.heap.size + 1, 3, none⟩ = some (.int .u64 b0) := by rw [hR1]; first | assumption | (simp [go_sem, *]; done)
  have zR1_r : w.heap.size + 1 + 1 < R1.heap.size := by rw [hR1]; first | omega | (simp <;> omega)
  have yR1_r : w.heap.size + 1 + 1 < R1.heap.size + 1 := by omega
  have yyR1_r : w.heap.size + 1 + 1 < R1.heap.size + 1 + 1 := by omega
  have cR1_r_0 : R1.cell? ⟨w.heap.size + 1 + 1, 0, none⟩ = some (.int .u64 0) := by rw [hR1]; first | assumption | (simp [go_sem, *]; done)
  have cR1_r_1 : R1.cell? ⟨w.heap.size + 1 + 1, 1, none⟩ = some (.int .u64 0) := by rw [hR1]; first | assumption | (simp [go_sem, *]; done)
  have cR1_r_2 : R1.cell? ⟨w.heap.size + 1 + 1, 2, none⟩ = some (.int .u64 0) := by rw [hR1]; first | assumption | (simp [go_sem, *]; done)
  have cR1_r_3 : R1.cell? ⟨w.heap.size + 1 + 1, 3, none⟩ = some (.int .u64 0) := by rw [hR1]; first | assumption | (simp [go_sem, *]; done)
  have fR1_r : ∀ j, R1.frozen? ⟨w.heap.size + 1 + 1, j, none⟩ = false := fun j => by rw [hR1]; first | (simp [go_sem, *]; done) | (simp only [frozen?_alloc_cells]; rw [hfrw0 _ _ (by first | omega | (simp <;> omega))]; simp [frozen?_alloc_cells, World.frozen?]; done) | (simp [frozen?_alloc_cells, World.frozen?, *]; done)
  have lo_r : w.heap.size ≤ w.heap.size + 1 + 1 := by omega
  have na_r_a : ¬ (w.heap.size + 1 + 1 = w.heap.size) := by omega
  have nb_r_a : ¬ (w.heap.size = w.heap.size + 1 + 1) := by omega
  have na_r_b : ¬ (w.heap.size + 1 + 1 = w.heap.size + 1) := by omega
  have nb_r_b : ¬ (w.heap.size + 1 = w.heap.size + 1 + 1) := by omega
  have HBR1 : Hid (Below w.heap.size w R1) := by rw [hR1]; show Below _ _ _; exact (by repeat (first | with_reducible exact Below.refl _ _ | with_reducible exact Hid.out (by assumption) | with_reducible refine Below.setCell ?_ (by first | (simp; done) | omega | (simp <;> omega)) _ | with_reducible refine bl_al ?_ _ | with_reducible apply Below.drew))
  clear hR1
  go_wp2_with fail
  (with_reducible refine (K1.out _).mono ?_); rintro e w1 ⟨rfl, hb⟩; obtain ⟨hclw1, hfrw1⟩ := bcell hb; have zw1_a : w.heap.size < w1.heap.size := (by first | omega | (have hz := hb.size; (try simp at hz); omega)); have yw1_a : w.heap.size < w1.heap.size + 1 := (by omega); have yyw1_a : w.heap.size < w1.heap.size + 1 + 1 := (by omega); have zw1_b : w.heap.size + 1 < w1.heap.size := (by first | omega | (have hz := hb.size; (try simp at hz); omega)); have yw1_b : w.heap.size + 1 < w1.heap.size + 1 := (by omega); have yyw1_b : w.heap.size + 1 < w1.heap.size + 1 + 1 := (by omega); have zw1_r : w.heap.size + 1 + 1 < w1.heap.size := (by first | omega | (have hz := hb.size; (try simp at hz); omega)); have yw1_r : w.heap.size + 1 + 1 < w1.heap.size + 1 := (by omega); have yyw1_r : w.heap.size + 1 + 1 < w1.heap.size + 1 + 1 := (by omega); have sxw1_0 : R1.heap.size ≤ w1.heap.size := (by first | omega | (have hz := hb.size; (try simp at hz); omega)); have HBw1 : Hid (Below w.heap.size w w1) := (bl_trans (by repeat (first | with_reducible exact Below.refl _ _ | with_reducible exact Hid.out (by assumption) | with_reducible refine Below.setCell ?_ (by first | (simp; done) | omega | (simp <;> omega)) _ | with_reducible refine bl_al ?_ _ | with_reducible apply Below.drew)) hb); clear hb
  have fw1_r : ∀ j, w1.frozen? ⟨w.heap.size + 1 + 1, j, none⟩ = false := fun j => by rw [hfrw1 _ _ (by first | exact zR1_r | (simp; exact zR1_r))]; exact fR1_r j
  go_wp2_with fail
  refine bodyPost_ret (by simp [results, Try.results59, go_sem, *]; try rfl) rfl ?_
  exact ⟨rfl, by repeat (first | with_reducible exact Below.refl _ _ | with_reducible exact Hid.out (by assumption) | with_reducible refine Below.setCell ?_ (by first | (simp; done) | omega | (simp <;> omega)) _ | with_reducible refine bl_al ?_ _ | with_reducible apply Below.drew)⟩
set_option maxRecDepth 20000 in
set_option maxHeartbeats 60000000 in
theorem minus_gt_false (a3 a2 a1 a0 b3 b2 b1 b0 c l1 l0 h1 h0 : Int) (x : Bool) (hc : ¬ c ≤ 0) (w : World)
    (C1 : ∀ W, Calls Try.prog 24 #[.agg #[.int .u64 a3, .int .u64 a2, .int .u64 a1, .int .u64 a0], .agg #[.int .u64 b3, .int .u64 b2, .int .u64 b1, .int .u64 b0]] W fun e w' => e = .returned (.int .i64 c) ∧ Below W.heap.size W w')
    (C2 : ∀ W, Calls Try.prog 72 #[.agg #[.int .u64 a1, .int .u64 a0], .agg #[.int .u64 b1, .int .u64 b0]] W fun e w' => e = .returned (.agg #[.int .u64 l1, .int .u64 l0, .bool false]) ∧ Below W.heap.size W w')
    (C3 : ∀ W, Calls Try.prog 72 #[.agg #[.int .u64 a3, .int .u64 a2], .agg #[.int .u64 b3, .int .u64 b2]] W fun e w' => e = .returned (.agg #[.int .u64 h1, .int .u64 h0, .bool x]) ∧ Below W.heap.size W w') :
    Calls Try.prog 59 #[.agg #[.int .u64 a3, .int .u64 a2, .int .u64 a1, .int .u64 a0], .agg #[.int .u64 b3, .int .u64 b2, .int .u64 b1, .int .u64 b0]] w fun e w' => e = .returned (.agg #[.int .u64 h1, .int .u64 h0, .int .u64 l1, .int .u64 l0]) ∧ Below w.heap.size w w' := by
  have K1 := Lib.hid C1; have K2 := Lib.hid C2; have K3 := Lib.hid C3
  clear C1 C2 C3
  have fld := field_sum
  go_enter Try.func59, Try.ntmps59
  go_upto_region 1 with fail
  refine name_world (P := fun W => Code.wp _ _ _ _ W) _ (fun R1 hR1 => ?_)
  have zR1_a : w.heap.size < R1.heap.size := by rw [hR1]; first | omega | (simp <;> omega)
  have yR1_a : w.heap.size < R1.heap.size + 1 := by omega
  have yyR1_a : w.heap.size < R1.heap.size + 1 + 1 := by omega
  have cR1_a_0 : R1.cell? ⟨w.heap.size, 0, none⟩ = some (.int .u64 a3) := by rw [hR1]; first | assumption | (simp [go_sem, *]; done)
  have cR1_a_1 : R1.cell? ⟨w.heap.size, 1, none⟩ = some (.int .u64 a2) := by rw [hR1]; first | assumption | (simp [go_sem, *]; done)
  have cR1_a_2 : R1.cell? ⟨w.heap.size, 2, none⟩ = some (.int .u64 a1) := by rw [hR1]; first | assumption | (simp [go_sem, *]; done)
  have cR1_a_3 : R1.cell? ⟨w.heap.size, 3, none⟩ = some (.int .u64 a0) := by rw [hR1]; first | assumption | (simp [go_sem, *]; done)
  have zR1_b : w.heap.size + 1 < R1.heap.size := by rw [hR1]; first | omega | (simp <;> omega)
  have yR1_b : w.heap.size + 1 < R1.heap.size + 1 := by omega
  have yyR1_b : w.heap.size + 1 < R1.heap.size + 1 + 1 := by omega
  have cR1_b_0 : R1.cell? ⟨w.heap.size + 1, 0, none⟩ = some (.int .u64 b3) := by rw [hR1]; first | assumption | (simp [go_sem, *]; done)
  have cR1_b_1 : R1.cell? ⟨w.heap.size + 1, 1, none⟩ = some (.int .u64 b2) := by rw [hR1]; first | assumption | (simp [go_sem, *]; done)
  have cR1_b_2 : R1.cell? ⟨w.heap.size + 1, 2, none⟩ = some (.int .u64 b1) := by rw [hR1]; first | assumption | (simp [go_sem, *]; done)
  have cR1_b_3 : R1.cell? ⟨w.heap.size + 1, 3, none⟩ = some (.int .u64 b0) := by rw [hR1]; first | assumption | (simp [go_sem, *]; done)
  have zR1_r : w.heap.size + 1 + 1 < R1.heap.size := by rw [hR1]; first | omega | (simp <;> omega)
  have yR1_r : w.heap.size + 1 + 1 < R1.heap.size + 1 := by omega
  have yyR1_r : w.heap.size + 1 + 1 < R1.heap.size + 1 + 1 := by omega
  have cR1_r_0 : R1.cell? ⟨w.heap.size + 1 + 1, 0, none⟩ = some (.int .u64 0) := by rw [hR1]; first | assumption | (simp [go_sem, *]; done)
  have cR1_r_1 : R1.cell? ⟨w.heap.size + 1 + 1, 1, none⟩ = some (.int .u64 0) := by rw [hR1]; first | assumption | (simp [go_sem, *]; done)
  have cR1_r_2 : R1.cell? ⟨w.heap.size + 1 + 1, 2, none⟩ = some (.int .u64 0) := by rw [hR1]; first | assumption | (simp [go_sem, *]; done)
  have cR1_r_3 : R1.cell? ⟨w.heap.size + 1 + 1, 3, none⟩ = some (.int .u64 0) := by rw [hR1]; first | assumption | (simp [go_sem, *]; done)
  have fR1_r : ∀ j, R1.frozen? ⟨w.heap.size + 1 + 1, j, none⟩ = false := fun j => by rw [hR1]; first | (simp [go_sem, *]; done) | (simp only [frozen?_alloc_cells]; rw [hfrw0 _ _ (by first | omega | (simp <;> omega))]; simp [frozen?_alloc_cells, World.frozen?]; done) | (simp [frozen?_alloc_cells, World.frozen?, *]; done)
  have lo_r : w.heap.size ≤ w.heap.size + 1 + 1 := by omega
  have na_r_a : ¬ (w.heap.size + 1 + 1 = w.heap.size) := by omega
  have nb_r_a : ¬ (w.heap.size = w.heap.size + 1 + 1) := by omega
  have na_r_b : ¬ (w.heap.size + 1 + 1 = w.heap.size + 1) := by omega
  have nb_r_b : ¬ (w.heap.size + 1 = w.heap.size + 1 + 1) := by omega
  have HBR1 : Hid (Below w.heap.size w R1) := by rw [hR1]; show Below _ _ _; exact (by repeat (first | with_reducible exact Below.refl _ _ | with_reducible exact Hid.out (by assumption) | with_reducible refine Below.setCell ?_ (by first | (simp; done) | omega | (simp <;> omega)) _ | with_reducible refine bl_al ?_ _ | with_reducible apply Below.drew))
  clear hR1
  go_wp2_with fail
  (with_reducible refine (K1.out _).mono ?_); rintro e w1 ⟨rfl, hb⟩; obtain ⟨hclw1, hfrw1⟩ := bcell hb; have zw1_a : w.heap.size < w1.heap.size := (by first | omega | (have hz := hb.size; (try simp at hz); omega)); have yw1_a : w.heap.size < w1.heap.size + 1 := (by omega); have yyw1_a : w.heap.size < w1.heap.size + 1 + 1 := (by omega); have zw1_b : w.heap.size + 1 < w1.heap.size := (by first | omega | (have hz := hb.size; (try simp at hz); omega)); have yw1_b : w.heap.size + 1 < w1.heap.size + 1 := (by omega); have yyw1_b : w.heap.size + 1 < w1.heap.size + 1 + 1 := (by omega); have zw1_r : w.heap.size + 1 + 1 < w1.heap.size := (by first | omega | (have hz := hb.size; (try simp at hz); omega)); have yw1_r : w.heap.size + 1 + 1 < w1.heap.size + 1 := (by omega); have yyw1_r : w.heap.size + 1 + 1 < w1.heap.size + 1 + 1 := (by omega); have sxw1_0 : R1.heap.size ≤ w1.heap.size := (by first | omega | (have hz := hb.size; (try simp at hz); omega)); have HBw1 : Hid (Below w.heap.size w w1) := (bl_trans (by repeat (first | with_reducible exact Below.refl _ _ | with_reducible exact Hid.out (by assumption) | with_reducible refine Below.setCell ?_ (by first | (simp; done) | omega | (simp <;> omega)) _ | with_reducible refine bl_al ?_ _ | with_reducible apply Below.drew)) hb); clear hb
  have fw1_r : ∀ j, w1.frozen? ⟨w.heap.size + 1 + 1, j, none⟩ = false := fun j => by rw [hfrw1 _ _ (by first | exact zR1_r | (simp; exact zR1_r))]; exact fR1_r j
  go_upto_region 3 with fail
  refine name_world (P := fun W => Code.wp _ _ _ _ W) _ (fun R2 hR2 => ?_)
  have zR2_a : w.heap.size < R2.heap.size := by rw [hR2]; first | omega | (simp <;> omega)
  have yR2_a : w.heap.size < R2.heap.size + 1 := by omega
  have yyR2_a : w.heap.size < R2.heap.size + 1 + 1 := by omega
  have cR2_a_0 : R2.cell? ⟨w.heap.size, 0, none⟩ = some (.int .u64 a3) := by rw [hR2]; first | assumption | (simp [go_sem, *]; done)
  have cR2_a_1 : R2.cell? ⟨w.heap.size, 1, none⟩ = some (.int .u64 a2) := by rw [hR2]; first | assumption | (simp [go_sem, *]; done)
  have cR2_a_2 : R2.cell? ⟨w.heap.size, 2, none⟩ = some (.int .u64 a1) := by rw [hR2]; first | assumption | (simp [go_sem, *]; done)
  have cR2_a_3 : R2.cell? ⟨w.heap.size, 3, none⟩ = some (.int .u64 a0) := by rw [hR2]; first | assumption | (simp [go_sem, *]; done)
  have zR2_b : w.heap.size + 1 < R2.heap.size := by rw [hR2]; first | omega | (simp <;> omega)
  have yR2_b : w.heap.size + 1 < R2.heap.size + 1 := by omega
  have yyR2_b : w.heap.size + 1 < R2.heap.size + 1 + 1 := by omega
  have cR2_b_0 : R2.cell? ⟨w.heap.size + 1, 0, none⟩ = some (.int .u64 b3) := by rw [hR2]; first | assumption | (simp [go_sem, *]; done)
  have cR2_b_1 : R2.cell? ⟨w.heap.size + 1, 1, none⟩ = some (.int .u64 b2) := by rw [hR2]; first | assumption | (simp [go_sem, *]; done)
  have cR2_b_2 : R2.cell? ⟨w.heap.size + 1, 2, none⟩ = some (.int .u64 b1) := by rw [hR2]; first | assumption | (simp [go_sem, *]; done)
  have cR2_b_3 : R2.cell? ⟨w.heap.size + 1, 3, none⟩ = some (.int .u64 b0) := by rw [hR2]; first | assumption | (simp [go_sem, *]; done)
  have zR2_r : w.heap.size + 1 + 1 < R2.heap.size := by rw [hR2]; first | omega | (simp <;> omega)
  have yR2_r : w.heap.size + 1 + 1 < R2.heap.size + 1 := by omega
  have yyR2_r : w.heap.size + 1 + 1 < R2.heap.size + 1 + 1 := by omega
  have cR2_r_0 : R2.cell? ⟨w.heap.size + 1 + 1, 0, none⟩ = some (.int .u64 0) := by rw [hR2]; first | assumption | (simp [go_sem, *]; done)
  have cR2_r_1 : R2.cell? ⟨w.heap.size + 1 + 1, 1, none⟩ = some (.int .u64 0) := by rw [hR2]; first | assumption | (simp [go_sem, *]; done)
  have cR2_r_2 : R2.cell? ⟨w.heap.size + 1 + 1, 2, none⟩ = some (.int .u64 0) := by rw [hR2]; first | assumption | (simp [go_sem, *]; done)
  have cR2_r_3 : R2.cell? ⟨w.heap.size + 1 + 1, 3, none⟩ = some (.int .u64 0) := by rw [hR2]; first | assumption | (simp [go_sem, *]; done)
  have fR2_r : ∀ j, R2.frozen? ⟨w.heap.size + 1 + 1, j, none⟩ = false := fun j => by rw [hR2]; first | (simp [go_sem, *]; done) | (simp only [frozen?_alloc_cells]; rw [hfrw1 _ _ (by first | omega | (simp <;> omega))]; simp [frozen?_alloc_cells, World.frozen?]; done) | (simp [frozen?_alloc_cells, World.frozen?, *]; done)
  have HBR2 : Hid (Below w.heap.size w R2) := by rw [hR2]; show Below _ _ _; exact (by repeat (first | with_reducible exact Below.refl _ _ | with_reducible exact Hid.out (by assumption) | with_reducible refine Below.setCell ?_ (by first | (simp; done) | omega | (simp <;> omega)) _ | with_reducible refine bl_al ?_ _ | with_reducible apply Below.drew))
  clear hR2
  clear zR1_a yR1_a yyR1_a cR1_a_0 cR1_a_1 cR1_a_2 cR1_a_3 zR1_b yR1_b yyR1_b cR1_b_0 cR1_b_1 cR1_b_2 cR1_b_3 zR1_r yR1_r yyR1_r cR1_r_0 cR1_r_1 cR1_r_2 cR1_r_3 fR1_r HBR1 zw1_a yw1_a yyw1_a zw1_b yw1_b yyw1_b zw1_r yw1_r yyw1_r sxw1_0 hclw1 hfrw1 HBw1 fw1_r
  go_wp2_with fail
  (with_reducible refine (K2.out _).mono ?_); rintro e w2 ⟨rfl, hb⟩; obtain ⟨hclw2, hfrw2⟩ := bcell hb; have zw2_a : w.heap.size < w2.heap.size := (by first | omega | (have hz := hb.size; (try simp at hz); omega)); have yw2_a : w.heap.size < w2.heap.size + 1 := (by omega); have yyw2_a : w.heap.size < w2.heap.size + 1 + 1 := (by omega); have zw2_b : w.heap.size + 1 < w2.heap.size := (by first | omega | (have hz := hb.size; (try simp at hz); omega)); have yw2_b : w.heap.size + 1 < w2.heap.size + 1 := (by omega); have yyw2_b : w.heap.size + 1 < w2.heap.size + 1 + 1 := (by omega); have zw2_r : w.heap.size + 1 + 1 < w2.heap.size := (by first | omega | (have hz := hb.size; (try simp at hz); omega)); have yw2_r : w.heap.size + 1 + 1 < w2.heap.size + 1 := (by omega); have yyw2_r : w.heap.size + 1 + 1 < w2.heap.size + 1 + 1 := (by omega); have sxw2_0 : R2.heap.size ≤ w2.heap.size := (by first | omega | (have hz := hb.size; (try simp at hz); omega)); have HBw2 : Hid (Below w.heap.size w w2) := (bl_trans (by repeat (first | with_reducible exact Below.refl _ _ | with_reducible exact Hid.out (by assumption) | with_reducible refine Below.setCell ?_ (by first | (simp; done) | omega | (simp <;> omega)) _ | with_reducible refine bl_al ?_ _ | with_reducible apply Below.drew)) hb); clear hb
  have fw2_r : ∀ j, w2.frozen? ⟨w.heap.size + 1 + 1, j, none⟩ = false := fun j => by rw [hfrw2 _ _ (by first | exact zR2_r | (simp; exact zR2_r))]; exact fR2_r j
  go_upto_region 4 with fail
  refine name_world (P := fun W => Code.wp _ _ _ _ W) _ (fun R3 hR3 => ?_)
  have zR3_a : w.heap.size < R3.heap.size := by rw [hR3]; first | omega | (simp <;> omega)
  have yR3_a : w.heap.size < R3.heap.size + 1 := by omega
  have yyR3_a : w.heap.size < R3.heap.size + 1 + 1 := by omega
  have cR3_a_0 : R3.cell? ⟨w.heap.size, 0, none⟩ = some (.int .u64 a3) := by rw [hR3]; first | assumption | (simp [go_sem, *]; done)
  have cR3_a_1 : R3.cell? ⟨w.heap.size, 1, none⟩ = some (.int .u64 a2) := by rw [hR3]; first | assumption | (simp [go_sem, *]; done)
  have cR3_a_2 : R3.cell? ⟨w.heap.size, 2, none⟩ = some (.int .u64 a1) := by rw [hR3]; first | assumption | (simp [go_sem, *]; done)
  have cR3_a_3 : R3.cell? ⟨w.heap.size, 3, none⟩ = some (.int .u64 a0) := by rw [hR3]; first | assumption | (simp [go_sem, *]; done)
  have zR3_b : w.heap.size + 1 < R3.heap.size := by rw [hR3]; first | omega | (simp <;> omega)
  have yR3_b : w.heap.size + 1 < R3.heap.size + 1 := by omega
  have yyR3_b : w.heap.size + 1 < R3.heap.size + 1 + 1 := by omega
  have cR3_b_0 : R3.cell? ⟨w.heap.size + 1, 0, none⟩ = some (.int .u64 b3) := by rw [hR3]; first | assumption | (simp [go_sem, *]; done)
  have cR3_b_1 : R3.cell? ⟨w.heap.size + 1, 1, none⟩ = some (.int .u64 b2) := by rw [hR3]; first | assumption | (simp [go_sem, *]; done)
  have cR3_b_2 : R3.cell? ⟨w.heap.size + 1, 2, none⟩ = some (.int .u64 b1) := by rw [hR3]; first | assumption | (simp [go_sem, *]; done)
  have cR3_b_3 : R3.cell? ⟨w.heap.size + 1, 3, none⟩ = some (.int .u64 b0) := by rw [hR3]; first | assumption | (simp [go_sem, *]; done)
  have zR3_r : w.heap.size + 1 + 1 < R3.heap.size := by rw [hR3]; first | omega | (simp <;> omega)
  have yR3_r : w.heap.size + 1 + 1 < R3.heap.size + 1 := by omega
  have yyR3_r : w.heap.size + 1 + 1 < R3.heap.size + 1 + 1 := by omega
  have cR3_r_0 : R3.cell? ⟨w.heap.size + 1 + 1, 0, none⟩ = some (.int .u64 0) := by rw [hR3]; first | assumption | (simp [go_sem, *]; done)
  have cR3_r_1 : R3.cell? ⟨w.heap.size + 1 + 1, 1, none⟩ = some (.int .u64 0) := by rw [hR3]; first | assumption | (simp [go_sem, *]; done)
  have cR3_r_2 : R3.cell? ⟨w.heap.size + 1 + 1, 2, none⟩ = some (.int .u64 0) := by rw [hR3]; first | assumption | (simp [go_sem, *]; done)
  have cR3_r_3 : R3.cell? ⟨w.heap.size + 1 + 1, 3, none⟩ = some (.int .u64 0) := by rw [hR3]; first | assumption | (simp [go_sem, *]; done)
  have fR3_r : ∀ j, R3.frozen? ⟨w.heap.size + 1 + 1, j, none⟩ = false := fun j => by rw [hR3]; first | (simp [go_sem, *]; done) | (simp only [frozen?_alloc_cells]; rw [hfrw2 _ _ (by first | omega | (simp <;> omega))]; simp [frozen?_alloc_cells, World.frozen?]; done) | (simp [frozen?_alloc_cells, World.frozen?, *]; done)
  have zR3_lo : w2.heap.size < R3.heap.size := by rw [hR3]; first | omega | (simp <;> omega)
  have yR3_lo : w2.heap.size < R3.heap.size + 1 := by omega
  have yyR3_lo : w2.heap.size < R3.heap.size + 1 + 1 := by omega
  have cR3_lo_0 : R3.cell? ⟨w2.heap.size, 0, none⟩ = some (.int .u64 l1) := by rw [hR3]; first | assumption | (simp [go_sem, *]; done)
  have cR3_lo_1 : R3.cell? ⟨w2.heap.size, 1, none⟩ = some (.int .u64 l0) := by rw [hR3]; first | assumption | (simp [go_sem, *]; done)
  have cR3_lo_2 : R3.cell? ⟨w2.heap.size, 2, none⟩ = some (.bool false) := by rw [hR3]; first | assumption | (simp [go_sem, *]; done)
  have na_r_lo : ¬ (w.heap.size + 1 + 1 = w2.heap.size) := by omega
  have nb_r_lo : ¬ (w2.heap.size = w.heap.size + 1 + 1) := by omega
  have HBR3 : Hid (Below w.heap.size w R3) := by rw [hR3]; show Below _ _ _; exact (by repeat (first | with_reducible exact Below.refl _ _ | with_reducible exact Hid.out (by assumption) | with_reducible refine Below.setCell ?_ (by first | (simp; done) | omega | (simp <;> omega)) _ | with_reducible refine bl_al ?_ _ | with_reducible apply Below.drew))
  clear hR3
  clear zR2_a yR2_a yyR2_a cR2_a_0 cR2_a_1 cR2_a_2 cR2_a_3 zR2_b yR2_b yyR2_b cR2_b_0 cR2_b_1 cR2_b_2 cR2_b_3 zR2_r yR2_r yyR2_r cR2_r_0 cR2_r_1 cR2_r_2 cR2_r_3 fR2_r HBR2 zw2_a yw2_a yyw2_a zw2_b yw2_b yyw2_b zw2_r yw2_r yyw2_r sxw2_0 hclw2 hfrw2 HBw2 fw2_r
  go_wp2_with fail
  (with_reducible refine (K3.out _).mono ?_); rintro e w3 ⟨rfl, hb⟩; obtain ⟨hclw3, hfrw3⟩ := bcell hb; have zw3_a : w.heap.size < w3.heap.size := (by first | omega | (have hz := hb.size; (try simp at hz); omega)); have yw3_a : w.heap.size < w3.heap.size + 1 := (by omega); have yyw3_a : w.heap.size < w3.heap.size + 1 + 1 := (by omega); have zw3_b : w.heap.size + 1 < w3.heap.size := (by first | omega | (have hz := hb.size; (try simp at hz); omega)); have yw3_b : w.heap.size + 1 < w3.heap.size + 1 := (by omega); have yyw3_b : w.heap.size + 1 < w3.heap.size + 1 + 1 := (by omega); have zw3_r : w.heap.size + 1 + 1 < w3.heap.size := (by first | omega | (have hz := hb.size; (try simp at hz); omega)); have yw3_r : w.heap.size + 1 + 1 < w3.heap.size + 1 := (by omega); have yyw3_r : w.heap.size + 1 + 1 < w3.heap.size + 1 + 1 := (by omega); have zw3_lo : w2.heap.size < w3.heap.size := (by first | omega | (have hz := hb.size; (try simp at hz); omega)); have yw3_lo : w2.heap.size < w3.heap.size + 1 := (by omega); have yyw3_lo : w2.heap.size < w3.heap.size + 1 + 1 := (by omega); have sxw3_0 : R3.heap.size ≤ w3.heap.size := (by first | omega | (have hz := hb.size; (try simp at hz); omega)); have HBw3 : Hid (Below w.heap.size w w3) := (bl_trans (by repeat (first | with_reducible exact Below.refl _ _ | with_reducible exact Hid.out (by assumption) | with_reducible refine Below.setCell ?_ (by first | (simp; done) | omega | (simp <;> omega)) _ | with_reducible refine bl_al ?_ _ | with_reducible apply Below.drew)) hb); clear hb
  have fw3_r : ∀ j, w3.frozen? ⟨w.heap.size + 1 + 1, j, none⟩ = false := fun j => by rw [hfrw3 _ _ (by first | exact zR3_r | (simp; exact zR3_r))]; exact fR3_r j
  go_wp2_with fail
  refine bodyPost_ret (by simp [results, Try.results59, go_sem, *]; try rfl) rfl ?_
  exact ⟨rfl, by repeat (first | with_reducible exact Below.refl _ _ | with_reducible exact Hid.out (by assumption) | with_reducible refine Below.setCell ?_ (by first | (simp; done) | omega | (simp <;> omega)) _ | with_reducible refine bl_al ?_ _ | with_reducible apply Below.drew)⟩
set_option maxRecDepth 20000 in
set_option maxHeartbeats 60000000 in
theorem minus_gt_true (a3 a2 a1 a0 b3 b2 b1 b0 c l1 l0 h1 h0 g1 g0 : Int) (x y : Bool) (hc : ¬ c ≤ 0) (w : World)
    (C1 : ∀ W, Calls Try.prog 24 #[.agg #[.int .u64 a3, .int .u64 a2, .int .u64 a1, .int .u64 a0], .agg #[.int .u64 b3, .int .u64 b2, .int .u64 b1, .int .u64 b0]] W fun e w' => e = .returned (.int .i64 c) ∧ Below W.heap.size W w')
    (C2 : ∀ W, Calls Try.prog 72 #[.agg #[.int .u64 a1, .int .u64 a0], .agg #[.int .u64 b1, .int .u64 b0]] W fun e w' => e = .returned (.agg #[.int .u64 l1, .int .u64 l0, .bool true]) ∧ Below W.heap.size W w')
    (C3 : ∀ W, Calls Try.prog 72 #[.agg #[.int .u64 a3, .int .u64 a2], .agg #[.int .u64 b3, .int .u64 b2]] W fun e w' => e = .returned (.agg #[.int .u64 h1, .int .u64 h0, .bool x]) ∧ Below W.heap.size W w')
    (C4 : ∀ W, Calls Try.prog 72 #[.agg #[.int .u64 h1, .int .u64 h0], .agg #[.int .u64 0, .int .u64 1]] W fun e w' => e = .returned (.agg #[.int .u64 g1, .int .u64 g0, .bool y]) ∧ Below W.heap.size W w') :
    Calls Try.prog 59 #[.agg #[.int .u64 a3, .int .u64 a2, .int .u64 a1, .int .u64 a0], .agg #[.int .u64 b3, .int .u64 b2, .int .u64 b1, .int .u64 b0]] w fun e w' => e = .returned (.agg #[.int .u64 g1, .int .u64 g0, .int .u64 l1, .int .u64 l0]) ∧ Below w.heap.size w w' := by
  have K1 := Lib.hid C1; have K2 := Lib.hid C2; have K3 := Lib.hid C3; have K4 := Lib.hid C4
  clear C1 C2 C3 C4
  have fld := field_sum
  go_enter Try.func59, Try.ntmps59
  go_upto_region 1 with fail
  refine name_world (P := fun W => Code.wp _ _ _ _ W) _ (fun R1 hR1 => ?_)
  have zR1_a : w.heap.size < R1.heap.size := by rw [hR1]; first | omega | (simp <;> omega)
  have yR1_a : w.heap.size < R1.heap.size + 1 := by omega
  have yyR1_a : w.heap.size < R1.heap.size + 1 + 1 := by omega
  have cR1_a_0 : R1.cell? ⟨w.heap.size, 0, none⟩ = some (.int .u64 a3) := by rw [hR1]; first | assumption | (simp [go_sem, *]; done)
  have cR1_a_1 : R1.cell? ⟨w.heap.size, 1, none⟩ = some (.int .u64 a2) := by rw [hR1]; first | assumption | (simp [go_sem, *]; done)
  have cR1_a_2 : R1.cell? ⟨w.heap.size, 2, none⟩ = some (.int .u64 a1) := by rw [hR1]; first | assumption | (simp [go_sem, *]; done)
  have cR1_a_3 : R1.cell? ⟨w.heap.size, 3, none⟩ = some (.int .u64 a0) := by rw [hR1]; first | assumption | (simp [go_sem, *]; done)
  have zR1_b : w.heap.size + 1 < R1.heap.size := by rw [hR1]; first | omega | (simp <;> omega)
  have yR1_b : w.heap.size + 1 < R1.heap.size + 1 := by omega
  have yyR1_b : w.heap.size + 1 < R1.heap.size + 1 + 1 := by omega
  have cR1_b_0 : R1.cell? ⟨w.heap.size + 1, 0, none⟩ = some (.int .u64 b3) := by rw [hR1]; first | assumption | (simp [go_sem, *]; done)
  have cR1_b_1 : R1.cell? ⟨w.heap.size + 1, 1, none⟩ = some (.int .u64 b2) := by rw [hR1]; first | assumption | (simp [go_sem, *]; done)
  have cR1_b_2 : R1.cell? ⟨w.heap.size + 1, 2, none⟩ = some (.int .u64 b1) := by rw [hR1]; first | assumption | (simp [go_sem, *]; done)
  have cR1_b_3 : R1.cell? ⟨w.heap.size + 1, 3, none⟩ = some (.int .u64 b0) := by rw [hR1]; first | assumption | (simp [go_sem, *]; done)
  have zR1_r : w.heap.size + 1 + 1 < R1.heap.size := by rw [hR1]; first | omega | (simp <;> omega)
  have yR1_r : w.heap.size + 1 + 1 < R1.heap.size + 1 := by omega
  have yyR1_r : w.heap.size + 1 + 1 < R1.heap.size + 1 + 1 := by omega
  have cR1_r_0 : R1.cell? ⟨w.heap.size + 1 + 1, 0, none⟩ = some (.int .u64 0) := by rw [hR1]; first | assumption | (simp [go_sem, *]; done)
  have cR1_r_1 : R1.cell? ⟨w.heap.size + 1 + 1, 1, none⟩ = some (.int .u64 0) := by rw [hR1]; first | assumption | (simp [go_sem, *]; done)
  have cR1_r_2 : R1.cell? ⟨w.heap.size + 1 + 1, 2, none⟩ = some (.int .u64 0) := by rw [hR1]; first | assumption | (simp [go_sem, *]; done)
  have cR1_r_3 : R1.cell? ⟨w.heap.size + 1 + 1, 3, none⟩ = some (.int .u64 0) := by rw [hR1]; first | assumption | (simp [go_sem, *]; done)
  have fR1_r : ∀ j, R1.frozen? ⟨w.heap.size + 1 + 1, j, none⟩ = false := fun j => by rw [hR1]; first | (simp [go_sem, *]; done) | (simp only [frozen?_alloc_cells]; rw [hfrw0 _ _ (by first | omega | (simp <;> omega))]; simp [frozen?_alloc_cells, World.frozen?]; done) | (simp [frozen?_alloc_cells, World.frozen?, *]; done)
  have lo_r : w.heap.size ≤ w.heap.size + 1 + 1 := by omega
  have na_r_a : ¬ (w.heap.size + 1 + 1 = w.heap.size) := by omega
  have nb_r_a : ¬ (w.heap.size = w.heap.size + 1 + 1) := by omega
  have na_r_b : ¬ (w.heap.size + 1 + 1 = w.heap.size + 1) := by omega
  have nb_r_b : ¬ (w.heap.size + 1 = w.heap.size + 1 + 1) := by omega
  have HBR1 : Hid (Below w.heap.size w R1) := by rw [hR1]; show Below _ _ _; exact (by repeat (first | with_reducible exact Below.refl _ _ | with_reducible exact Hid.out (by assumption) | with_reducible refine Below.setCell ?_ (by first | (simp; done) | omega | (simp <;> omega)) _ | with_reducible refine bl_al ?_ _ | with_reducible apply Below.drew))
  clear hR1
  go_wp2_with fail
  (with_reducible refine (K1.out _).mono ?_); rintro e w1 ⟨rfl, hb⟩; obtain ⟨hclw1, hfrw1⟩ := bcell hb; have zw1_a : w.heap.size < w1.heap.size := (by first | omega | (have hz := hb.size; (try simp at hz); omega)); have yw1_a : w.heap.size < w1.heap.size + 1 := (by omega); have yyw1_a : w.heap.size < w1.heap.size + 1 + 1 := (by omega); have zw1_b : w.heap.size + 1 < w1.heap.size := (by first | omega | (have hz := hb.size; (try simp at hz); omega)); have yw1_b : w.heap.size + 1 < w1.heap.size + 1 := (by omega); have yyw1_b : w.heap.size + 1 < w1.heap.size + 1 + 1 := (by omega); have zw1_r : w.heap.size + 1 + 1 < w1.heap.size := (by first | omega | (have hz := hb.size; (try simp at hz); omega)); have yw1_r : w.heap.size + 1 + 1 < w1.heap.size + 1 := (by omega); have yyw1_r : w.heap.size + 1 + 1 < w1.heap.size + 1 + 1 := (by omega); have sxw1_0 : R1.heap.size ≤ w1.heap.size := (by first | omega | (have hz := hb.size; (try simp at hz); omega)); have HBw1 : Hid (Below w.heap.size w w1) := (bl_trans (by repeat (first | with_reducible exact Below.refl _ _ | with_reducible exact Hid.out (by assumption) | with_reducible refine Below.setCell ?_ (by first | (simp; done) | omega | (simp <;> omega)) _ | with_reducible refine bl_al ?_ _ | with_reducible apply Below.drew)) hb); clear hb
  have fw1_r : ∀ j, w1.frozen? ⟨w.heap.size + 1 + 1, j, none⟩ = false := fun j => by rw [hfrw1 _ _ (by first | exact zR1_r | (simp; exact zR1_r))]; exact fR1_r j
  go_upto_region 3 with fail
  refine name_world (P := fun W => Code.wp _ _ _ _ W) _ (fun R2 hR2 => ?_)
  have zR2_a : w.heap.size < R2.heap.size := by rw [hR2]; first | omega | (simp <;> omega)
  have yR2_a : w.heap.size < R2.heap.size + 1 := by omega
  have yyR2_a : w.heap.size < R2.heap.size + 1 + 1 := by omega
  have cR2_a_0 : R2.cell? ⟨w.heap.size, 0, none⟩ = some (.int .u64 a3) := by rw [hR2]; first | assumption | (simp [go_sem, *]; done)
  have cR2_a_1 : R2.cell? ⟨w.heap.size, 1, none⟩ = some (.int .u64 a2) := by rw [hR2]; first | assumption | (simp [go_sem, *]; done)
  have cR2_a_2 : R2.cell? ⟨w.heap.size, 2, none⟩ = some (.int .u64 a1) := by rw [hR2]; first | assumption | (simp [go_sem, *]; done)
  have cR2_a_3 : R2.cell? ⟨w.heap.size, 3, none⟩ = some (.int .u64 a0) := by rw [hR2]; first | assumption | (simp [go_sem, *]; done)
  have zR2_b : w.heap.size + 1 < R2.heap.size := by rw [hR2]; first | omega | (simp <;> omega)
  have yR2_b : w.heap.size + 1 < R2.heap.size + 1 := by omega
  have yyR2_b : w.heap.size + 1 < R2.heap.size + 1 + 1 := by omega
  have cR2_b_0 : R2.cell? ⟨w.heap.size + 1, 0, none⟩ = some (.int .u64 b3) := by rw [hR2]; first | assumption | (simp [go_sem, *]; done)
  have cR2_b_1 : R2.cell? ⟨w.heap.size + 1, 1, none⟩ = some (.int .u64 b2) := by rw [hR2]; first | assumption | (simp [go_sem, *]; done)
  have cR2_b_2 : R2.cell? ⟨w.heap.size + 1, 2, none⟩ = some (.int .u64 b1) := by rw [hR2]; first | assumption | (simp [go_sem, *]; done)
  have cR2_b_3 : R2.cell? ⟨w.heap.size + 1, 3, none⟩ = some (.int .u64 b0) := by rw [hR2]; first | assumption | (simp [go_sem, *]; done)
  have zR2_r : w.heap.size + 1 + 1 < R2.heap.size := by rw [hR2]; first | omega | (simp <;> omega)
  have yR2_r : w.heap.size + 1 + 1 < R2.heap.size + 1 := by omega
  have yyR2_r : w.heap.size + 1 + 1 < R2.heap.size + 1 + 1 := by omega
  have cR2_r_0 : R2.cell? ⟨w.heap.size + 1 + 1, 0, none⟩ = some (.int .u64 0) := by rw [hR2]; first | assumption | (simp [go_sem, *]; done)
  have cR2_r_1 : R2.cell? ⟨w.heap.size + 1 + 1, 1, none⟩ = some (.int .u64 0) := by rw [hR2]; first | assumption | (simp [go_sem, *]; done)
  have cR2_r_2 : R2.cell? ⟨w.heap.size + 1 + 1, 2, none⟩ = some (.int .u64 0) := by rw [hR2]; first | assumption | (simp [go_sem, *]; done)
  have cR2_r_3 : R2.cell? ⟨w.heap.size + 1 + 1, 3, none⟩ = some (.int .u64 0) := by rw [hR2]; first | assumption | (simp [go_sem, *]; done)
  have fR2_r : ∀ j, R2.frozen? ⟨w.heap.size + 1 + 1, j, none⟩ = false := fun j => by rw [hR2]; first | (simp [go_sem, *]; done) | (simp only [frozen?_alloc_cells]; rw [hfrw1 _ _ (by first | omega | (simp <;> omega))]; simp [frozen?_alloc_cells, World.frozen?]; done) | (simp [frozen?_alloc_cells, World.frozen?, *]; done)
  have HBR2 : Hid (Below w.heap.size w R2) := by rw [hR2]; show Below _ _ _; exact (by repeat (first | with_reducible exact Below.refl _ _ | with_reducible exact Hid.out (by assumption) | with_reducible refine Below.setCell ?_ (by first | (simp; done) | omega | (simp <;> omega)) _ | with_reducible refine bl_al ?_ _ | with_reducible apply Below.drew))
  clear hR2
  clear zR1_a yR1_a yyR1_a cR1_a_0 cR1_a_1 cR1_a_2 cR1_a_3 zR1_b yR1_b yyR1_b cR1_b_0 cR1_b_1 cR1_b_2 cR1_b_3 zR1_r yR1_r yyR1_r cR1_r_0 cR1_r_1 cR1_r_2 cR1_r_3 fR1_r HBR1 zw1_a yw1_a yyw1_a zw1_b yw1_b yyw1_b zw1_r yw1_r yyw1_r sxw1_0 hclw1 hfrw1 HBw1 fw1_r
  go_wp2_with fail
  (with_reducible refine (K2.out _).mono ?_); rintro e w2 ⟨rfl, hb⟩; obtain ⟨hclw2, hfrw2⟩ := bcell hb; have zw2_a : w.heap.size < w2.heap.size := (by first | omega | (have hz := hb.size; (try simp at hz); omega)); have yw2_a : w.heap.size < w2.heap.size + 1 := (by omega); have yyw2_a : w.heap.size < w2.heap.size + 1 + 1 := (by omega); have zw2_b : w.heap.size + 1 < w2.heap.size := (by first | omega | (have hz := hb.size; (try simp at hz); omega)); have yw2_b : w.heap.size + 1 < w2.heap.size + 1 := (by omega); have yyw2_b : w.heap.size + 1 < w2.heap.size + 1 + 1 := (by omega); have zw2_r : w.heap.size + 1 + 1 < w2.heap.size := (by first | omega | (have hz := hb.size; (try simp at hz); omega)); have yw2_r : w.heap.size + 1 + 1 < w2.heap.size + 1 := (by omega); have yyw2_r : w.heap.size + 1 + 1 < w2.heap.size + 1 + 1 := (by omega); have sxw2_0 : R2.heap.size ≤ w2.heap.size := (by first | omega | (have hz := hb.size; (try simp at hz); omega)); have HBw2 : Hid (Below w.heap.size w w2) := (bl_trans (by repeat (first | with_reducible exact Below.refl _ _ | with_reducible exact Hid.out (by assumption) | with_reducible refine Below.setCell ?_ (by first | (simp; done) | omega | (simp <;> omega)) _ | with_reducible refine bl_al ?_ _ | with_reducible apply Below.drew)) hb); clear hb
  have fw2_r : ∀ j, w2.frozen? ⟨w.heap.size + 1 + 1, j, none⟩ = false := fun j => by rw [hfrw2 _ _ (by first | exact zR2_r | (simp; exact zR2_r))]; exact fR2_r j
  go_upto_region 4 with fail
  refine name_world (P := fun W => Code.wp _ _ _ _ W) _ (fun R3 hR3 => ?_)
  have zR3_a : w.heap.size < R3.heap.size := by rw [hR3]; first | omega | (simp <;> omega)
  have yR3_a : w.heap.size < R3.heap.size + 1 := by omega
  have yyR3_a : w.heap.size < R3.heap.size + 1 + 1 := by omega
  have cR3_a_0 : R3.cell? ⟨w.heap.size, 0, none⟩ = some (.int .u64 a3) := by rw [hR3]; first | assumption | (simp [go_sem, *]; done)
  have cR3_a_1 : R3.cell? ⟨w.heap.size, 1, none⟩ = some (.int .u64 a2) := by rw [hR3]; first | assumption | (simp [go_sem, *]; done)
  have cR3_a_2 : R3.cell? ⟨w.heap.size, 2, none⟩ = some (.int .u64 a1) := by rw [hR3]; first | assumption | (simp [go_sem, *]; done)
  have cR3_a_3 : R3.cell? ⟨w.heap.size, 3, none⟩ = some (.int .u64 a0) := by rw [hR3]; first | assumption | (simp [go_sem, *]; done)
  have zR3_b : w.heap.size + 1 < R3.heap.size := by rw [hR3]; first | omega | (simp <;> omega)
  have yR3_b : w.heap.size + 1 < R3.heap.size + 1 := by omega
  have yyR3_b : w.heap.size + 1 < R3.heap.size + 1 + 1 := by omega
  have cR3_b_0 : R3.cell? ⟨w.heap.size + 1, 0, none⟩ = some (.int .u64 b3) := by rw [hR3]; first | assumption | (simp [go_sem, *]; done)
  have cR3_b_1 : R3.cell? ⟨w.heap.size + 1, 1, none⟩ = some (.int .u64 b2) := by rw [hR3]; first | assumption | (simp [go_sem, *]; done)
  have cR3_b_2 : R3.cell? ⟨w.heap.size + 1, 2, none⟩ = some (.int .u64 b1) := by rw [hR3]; first | assumption | (simp [go_sem, *]; done)
  have cR3_b_3 : R3.cell? ⟨w.heap.size + 1, 3, none⟩ = some (.int .u64 b0) := by rw [hR3]; first | assumption | (simp [go_sem, *]; done)
  have zR3_r : w.heap.size + 1 + 1 < R3.heap.size := by rw [hR3]; first | omega | (simp <;> omega)
  have yR3_r : w.heap.size + 1 + 1 < R3.heap.size + 1 := by omega
  have yyR3_r : w.heap.size + 1 + 1 < R3.heap.size + 1 + 1 := by omega
  have cR3_r_0 : R3.cell? ⟨w.heap.size + 1 + 1, 0, none⟩ = some (.int .u64 0) := by rw [hR3]; first | assumption | (simp [go_sem, *]; done)
  have cR3_r_1 : R3.cell? ⟨w.heap.size + 1 + 1, 1, none⟩ = some (.int .u64 0) := by rw [hR3]; first | assumption | (simp [go_sem, *]; done)
  have cR3_r_2 : R3.cell? ⟨w.heap.size + 1 + 1, 2, none⟩ = some (.int .u64 0) := by rw [hR3]; first | assumption | (simp [go_sem, *]; done)
  have cR3_r_3 : R3.cell? ⟨w.heap.size + 1 + 1, 3, none⟩ = some (.int .u64 0) := by rw [hR3]; first | assumption | (simp [go_sem, *]; done)
  have fR3_r : ∀ j, R3.frozen? ⟨w.heap.size + 1 + 1, j, none⟩ = false := fun j => by rw [hR3]; first | (simp [go_sem, *]; done) | (simp only [frozen?_alloc_cells]; rw [hfrw2 _ _ (by first | omega | (simp <;> omega))]; simp [frozen?_alloc_cells, World.frozen?]; done) | (simp [frozen?_alloc_cells, World.frozen?, *]; done)
  have zR3_lo : w2.heap.size < R3.heap.size := by rw [hR3]; first | omega | (simp <;> omega)
  have yR3_lo : w2.heap.size < R3.heap.size + 1 := by omega
  have yyR3_lo : w2.heap.size < R3.heap.size + 1 + 1 := by omega
  have cR3_lo_0 : R3.cell? ⟨w2.heap.size, 0, none⟩ = some (.int .u64 l1) := by rw [hR3]; first | assumption | (simp [go_sem, *]; done)
  have cR3_lo_1 : R3.cell? ⟨w2.heap.size, 1, none⟩ = some (.int .u64 l0) := by rw [hR3]; first | assumption | (simp [go_sem, *]; done)
  have cR3_lo_2 : R3.cell? ⟨w2.heap.size, 2, none⟩ = some (.bool true) := by rw [hR3]; first | assumption | (simp [go_sem, *]; done)
  have na_r_lo : ¬ (w.heap.size + 1 + 1 = w2.heap.size) := by omega
  have nb_r_lo : ¬ (w2.heap.size = w.heap.size + 1 + 1) := by omega
  have HBR3 : Hid (Below w.heap.size w R3) := by rw [hR3]; show Below _ _ _; exact (by repeat (first | with_reducible exact Below.refl _ _ | with_reducible exact Hid.out (by assumption) | with_reducible refine Below.setCell ?_ (by first | (simp; done) | omega | (simp <;> omega)) _ | with_reducible refine bl_al ?_ _ | with_reducible apply Below.drew))
  clear hR3
  clear zR2_a yR2_a yyR2_a cR2_a_0 cR2_a_1 cR2_a_2 cR2_a_3 zR2_b yR2_b yyR2_b cR2_b_0 cR2_b_1 cR2_b_2 cR2_b_3 zR2_r yR2_r yyR2_r cR2_r_0 cR2_r_1 cR2_r_2 cR2_r_3 fR2_r HBR2 zw2_a yw2_a yyw2_a zw2_b yw2_b yyw2_b zw2_r yw2_r yyw2_r sxw2_0 hclw2 hfrw2 HBw2 fw2_r
  go_wp2_with fail
  (with_reducible refine (K3.out _).mono ?_); rintro e w3 ⟨rfl, hb⟩; obtain ⟨hclw3, hfrw3⟩ := bcell hb; have zw3_a : w.heap.size < w3.heap.size := (by first | omega | (have hz := hb.size; (try simp at hz); omega)); have yw3_a : w.heap.size < w3.heap.size + 1 := (by omega); have yyw3_a : w.heap.size < w3.heap.size + 1 + 1 := (by omega); have zw3_b : w.heap.size + 1 < w3.heap.size := (by first | omega | (have hz := hb.size; (try simp at hz); omega)); have yw3_b : w.heap.size + 1 < w3.heap.size + 1 := (by omega); have yyw3_b : w.heap.size + 1 < w3.heap.size + 1 + 1 := (by omega); have zw3_r : w.heap.size + 1 + 1 < w3.heap.size := (by first | omega | (have hz := hb.size; (try simp at hz); omega)); have yw3_r : w.heap.size + 1 + 1 < w3.heap.size + 1 := (by omega); have yyw3_r : w.heap.size + 1 + 1 < w3.heap.size + 1 + 1 := (by omega); have zw3_lo : w2.heap.size < w3.heap.size := (by first | omega | (have hz := hb.size; (try simp at hz); omega)); have yw3_lo : w2.heap.size < w3.heap.size + 1 := (by omega); have yyw3_lo : w2.heap.size < w3.heap.size + 1 + 1 := (by omega); have sxw3_0 : R3.heap.size ≤ w3.heap.size := (by first | omega | (have hz := hb.size; (try simp at hz); omega)); have HBw3 : Hid (Below w.heap.size w w3) := (bl_trans (by repeat (first | with_reducible exact Below.refl _ _ | with_reducible exact Hid.out (by assumption) | with_reducible refine Below.setCell ?_ (by first | (simp; done) | omega | (simp <;> omega)) _ | with_reducible refine bl_al ?_ _ | with_reducible apply Below.drew)) hb); clear hb
  have fw3_r : ∀ j, w3.frozen? ⟨w.heap.size + 1 + 1, j, none⟩ = false := fun j => by rw [hfrw3 _ _ (by first | exact zR3_r | (simp; exact zR3_r))]; exact fR3_r j
  go_upto_region 6 with fail
  refine name_world (P := fun W => Code.wp _ _ _ _ W) _ (fun R4 hR4 => ?_)
  have zR4_a : w.heap.size < R4.heap.size := by rw [hR4]; first | omega | (simp <;> omega)
  have yR4_a : w.heap.size < R4.heap.size + 1 := by omega
  have yyR4_a : w.heap.size < R4.heap.size + 1 + 1 := by omega
  have cR4_a_0 : R4.cell? ⟨w.heap.size, 0, none⟩ = some (.int .u64 a3) := by rw [hR4]; first | assumption | (simp [go_sem, *]; done)
  have cR4_a_1 : R4.cell? ⟨w.heap.size, 1, none⟩ = some (.int .u64 a2) := by rw [hR4]; first | assumption | (simp [go_sem, *]; done)
  have cR4_a_2 : R4.cell? ⟨w.heap.size, 2, none⟩ = some (.int .u64 a1) := by rw [hR4]; first | assumption | (simp [go_sem, *]; done)
  have cR4_a_3 : R4.cell? ⟨w.heap.size, 3, none⟩ = some (.int .u64 a0) := by rw [hR4]; first | assumption | (simp [go_sem, *]; done)
  have zR4_b : w.heap.size + 1 < R4.heap.size := by rw [hR4]; first | omega | (simp <;> omega)
  have yR4_b : w.heap.size + 1 < R4.heap.size + 1 := by omega
  have yyR4_b : w.heap.size + 1 < R4.heap.size + 1 + 1 := by omega
  have cR4_b_0 : R4.cell? ⟨w.heap.size + 1, 0, none⟩ = some (.int .u64 b3) := by rw [hR4]; first | assumption | (simp [go_sem, *]; done)
  have cR4_b_1 : R4.cell? ⟨w.heap.size + 1, 1, none⟩ = some (.int .u64 b2) := by rw [hR4]; first | assumption | (simp [go_sem, *]; done)
  have cR4_b_2 : R4.cell? ⟨w.heap.size + 1, 2, none⟩ = some (.int .u64 b1) := by rw [hR4]; first | assumption | (simp [go_sem, *]; done)
  have cR4_b_3 : R4.cell? ⟨w.heap.size + 1, 3, none⟩ = some (.int .u64 b0) := by rw [hR4]; first | assumption | (simp [go_sem, *]; done)
  have zR4_r : w.heap.size + 1 + 1 < R4.heap.size := by rw [hR4]; first | omega | (simp <;> omega)
  have yR4_r : w.heap.size + 1 + 1 < R4.heap.size + 1 := by omega
  have yyR4_r : w.heap.size + 1 + 1 < R4.heap.size + 1 + 1 := by omega
  have cR4_r_0 : R4.cell? ⟨w.heap.size + 1 + 1, 0, none⟩ = some (.int .u64 0) := by rw [hR4]; first | assumption | (simp [go_sem, *]; done)
  have cR4_r_1 : R4.cell? ⟨w.heap.size + 1 + 1, 1, none⟩ = some (.int .u64 0) := by rw [hR4]; first | assumption | (simp [go_sem, *]; done)
  have cR4_r_2 : R4.cell? ⟨w.heap.size + 1 + 1, 2, none⟩ = some (.int .u64 0) := by rw [hR4]; first | assumption | (simp [go_sem, *]; done)
  have cR4_r_3 : R4.cell? ⟨w.heap.size + 1 + 1, 3, none⟩ = some (.int .u64 0) := by rw [hR4]; first | assumption | (simp [go_sem, *]; done)
  have fR4_r : ∀ j, R4.frozen? ⟨w.heap.size + 1 + 1, j, none⟩ = false := fun j => by rw [hR4]; first | (simp [go_sem, *]; done) | (simp only [frozen?_alloc_cells]; rw [hfrw3 _ _ (by first | omega | (simp <;> omega))]; simp [frozen?_alloc_cells, World.frozen?]; done) | (simp [frozen?_alloc_cells, World.frozen?, *]; done)
  have zR4_lo : w2.heap.size < R4.heap.size := by rw [hR4]; first | omega | (simp <;> omega)
  have yR4_lo : w2.heap.size < R4.heap.size + 1 := by omega
  have yyR4_lo : w2.heap.size < R4.heap.size + 1 + 1 := by omega
  have cR4_lo_0 : R4.cell? ⟨w2.heap.size, 0, none⟩ = some (.int .u64 l1) := by rw [hR4]; first | assumption | (simp [go_sem, *]; done)
  have cR4_lo_1 : R4.cell? ⟨w2.heap.size, 1, none⟩ = some (.int .u64 l0) := by rw [hR4]; first | assumption | (simp [go_sem, *]; done)
  have cR4_lo_2 : R4.cell? ⟨w2.heap.size, 2, none⟩ = some (.bool true) := by rw [hR4]; first | assumption | (simp [go_sem, *]; done)
  have zR4_hi : w3.heap.size < R4.heap.size := by rw [hR4]; first | omega | (simp <;> omega)
  have yR4_hi : w3.heap.size < R4.heap.size + 1 := by omega
  have yyR4_hi : w3.heap.size < R4.heap.size + 1 + 1 := by omega
  have cR4_hi_0 : R4.cell? ⟨w3.heap.size, 0, none⟩ = some (.int .u64 h1) := by rw [hR4]; first | assumption | (simp [go_sem, *]; done)
  have cR4_hi_1 : R4.cell? ⟨w3.heap.size, 1, none⟩ = some (.int .u64 h0) := by rw [hR4]; first | assumption | (simp [go_sem, *]; done)
  have fR4_hi : ∀ j, R4.frozen? ⟨w3.heap.size, j, none⟩ = false := fun j => by rw [hR4]; first | (simp [go_sem, *]; done) | (simp only [frozen?_alloc_cells]; rw [hfrw3 _ _ (by first | omega | (simp <;> omega))]; simp [frozen?_alloc_cells, World.frozen?]; done) | (simp [frozen?_alloc_cells, World.frozen?, *]; done)
  have lo_hi : w.heap.size ≤ w3.heap.size := by omega
  have na_r_hi : ¬ (w.heap.size + 1 + 1 = w3.heap.size) := by omega
  have nb_r_hi : ¬ (w3.heap.size = w.heap.size + 1 + 1) := by omega
  have na_hi_a : ¬ (w3.heap.size = w.heap.size) := by omega
  have nb_hi_a : ¬ (w.heap.size = w3.heap.size) := by omega
  have na_hi_b : ¬ (w3.heap.size = w.heap.size + 1) := by omega
  have nb_hi_b : ¬ (w.heap.size + 1 = w3.heap.size) := by omega
  have na_hi_r : ¬ (w3.heap.size = w.heap.size + 1 + 1) := by omega
  have nb_hi_r : ¬ (w.heap.size + 1 + 1 = w3.heap.size) := by omega
  have na_hi_lo : ¬ (w3.heap.size = w2.heap.size) := by omega
  have nb_hi_lo : ¬ (w2.heap.size = w3.heap.size) := by omega
  have HBR4 : Hid (Below w.heap.size w R4) := by rw [hR4]; show Below _ _ _; exact (by repeat (first | with_reducible exact Below.refl _ _ | with_reducible exact Hid.out (by assumption) | with_reducible refine Below.setCell ?_ (by first | (simp; done) | omega | (simp <;> omega)) _ | with_reducible refine bl_al ?_ _ | with_reducible apply Below.drew))
  clear hR4
  clear zR3_a yR3_a yyR3_a cR3_a_0 cR3_a_1 cR3_a_2 cR3_a_3 zR3_b yR3_b yyR3_b cR3_b_0 cR3_b_1 cR3_b_2 cR3_b_3 zR3_r yR3_r yyR3_r cR3_r_0 cR3_r_1 cR3_r_2 cR3_r_3 fR3_r zR3_lo yR3_lo yyR3_lo cR3_lo_0 cR3_lo_1 cR3_lo_2 HBR3 zw3_a yw3_a yyw3_a zw3_b yw3_b yyw3_b zw3_r yw3_r yyw3_r zw3_lo yw3_lo yyw3_lo sxw3_0 hclw3 hfrw3 HBw3 fw3_r
  go_wp2_with fail
  (with_reducible refine (K4.out _).mono ?_); rintro e w4 ⟨rfl, hb⟩; obtain ⟨hclw4, hfrw4⟩ := bcell hb; have zw4_a : w.heap.size < w4.heap.size := (by first | omega | (have hz := hb.size; (try simp at hz); omega)); have yw4_a : w.heap.size < w4.heap.size + 1 := (by omega); have yyw4_a : w.heap.size < w4.heap.size + 1 + 1 := (by omega); have zw4_b : w.heap.size + 1 < w4.heap.size := (by first | omega | (have hz := hb.size; (try simp at hz); omega)); have yw4_b : w.heap.size + 1 < w4.heap.size + 1 := (by omega); have yyw4_b : w.heap.size + 1 < w4.heap.size + 1 + 1 := (by omega); have zw4_r : w.heap.size + 1 + 1 < w4.heap.size := (by first | omega | (have hz := hb.size; (try simp at hz); omega)); have yw4_r : w.heap.size + 1 + 1 < w4.heap.size + 1 := (by omega); have yyw4_r : w.heap.size + 1 + 1 < w4.heap.size + 1 + 1 := (by omega); have zw4_lo : w2.heap.size < w4.heap.size := (by first | omega | (have hz := hb.size; (try simp at hz); omega)); have yw4_lo : w2.heap.size < w4.heap.size + 1 := (by omega); have yyw4_lo : w2.heap.size < w4.heap.size + 1 + 1 := (by omega); have zw4_hi : w3.heap.size < w4.heap.size := (by first | omega | (have hz := hb.size; (try simp at hz); omega)); have yw4_hi : w3.heap.size < w4.heap.size + 1 := (by omega); have yyw4_hi : w3.heap.size < w4.heap.size + 1 + 1 := (by omega); have sxw4_0 : R4.heap.size ≤ w4.heap.size := (by first | omega | (have hz := hb.size; (try simp at hz); omega)); have HBw4 : Hid (Below w.heap.size w w4) := (bl_trans (by repeat (first | with_reducible exact Below.refl _ _ | with_reducible exact Hid.out (by assumption) | with_reducible refine Below.setCell ?_ (by first | (simp; done) | omega | (simp <;> omega)) _ | with_reducible refine bl_al ?_ _ | with_reducible apply Below.drew)) hb); clear hb
  have fw4_r : ∀ j, w4.frozen? ⟨w.heap.size + 1 + 1, j, none⟩ = false := fun j => by rw [hfrw4 _ _ (by first | exact zR4_r | (simp; exact zR4_r))]; exact fR4_r j
  have fw4_hi : ∀ j, w4.frozen? ⟨w3.heap.size, j, none⟩ = false := fun j => by rw [hfrw4 _ _ (by first | exact zR4_hi | (simp; exact zR4_hi))]; exact fR4_hi j
  go_wp2_with fail
  refine bodyPost_ret (by simp [results, Try.results59, go_sem, *]; try rfl) rfl ?_
  exact ⟨rfl, by repeat (first | with_reducible exact Below.refl _ _ | with_reducible exact Hid.out (by assumption) | with_reducible refine Below.setCell ?_ (by first | (simp; done) | omega | (simp <;> omega)) _ | with_reducible refine bl_al ?_ _ | with_reducible apply Below.drew)⟩
theorem minus_any (A B : Nat) (hA : A < 115792089237316195423570985008687907853269984665640564039457584007913129639936) (hB : B < 115792089237316195423570985008687907853269984665640564039457584007913129639936) (w : World) :
    Calls Try.prog 59 #[.agg #[.int .u64 (wd A 3), .int .u64 (wd A 2), .int .u64 (wd A 1), .int .u64 (wd A 0)], .agg #[.int .u64 (wd B 3), .int .u64 (wd B 2), .int .u64 (wd B 1), .int .u64 (wd B 0)]] w fun e w' =>
      e = .returned (.agg #[.int .u64 (wd (A - B) 3), .int .u64 (wd (A - B) 2), .int .u64 (wd (A - B) 1), .int .u64 (wd (A - B) 0)]) ∧ Below w.heap.size w w' := by
  have C1 := rcmp_any _ _ _ _ _ _ _ _ (wd_wd A 3) (wd_wd A 2) (wd_wd A 1) (wd_wd A 0) (wd_wd B 3) (wd_wd B 2) (wd_wd B 1) (wd_wd B 0)
  rw [v4_wd, v4_wd, Nat.mod_eq_of_lt hA, Nat.mod_eq_of_lt hB] at C1
  by_cases c : A ≤ B
  · have hc : icmp (A : Int) (B : Int) ≤ 0 := by unfold icmp; split <;> (try split) <;> omega
    rw [show A - B = 0 by omega, show wd 0 3 = 0 from rfl, show wd 0 2 = 0 from rfl, show wd 0 1 = 0 from rfl, show wd 0 0 = 0 from rfl]
    exact minus_le _ _ _ _ _ _ _ _ _ hc w C1
  · have hc : ¬ icmp (A : Int) (B : Int) ≤ 0 := by unfold icmp; rw [if_neg (by omega), if_pos (by omega)]; decide
    have C2 := subTwo_any _ _ _ _ (wd_wd A 1) (wd_wd A 0) (wd_wd B 1) (wd_wd B 0)
    have C3 := subTwo_any _ _ _ _ (wd_wd A 3) (wd_wd A 2) (wd_wd B 3) (wd_wd B 2)
    rw [v2_wd, v2_wd] at C2
    rw [v2_wd23, v2_wd23] at C3
    by_cases d : A % 340282366920938463463374607431768211456 < B % 340282366920938463463374607431768211456
    · rw [decide_eq_true d] at C2
      have C4 := subTwo_any _ _ 0 1 (wd_wd (A / 340282366920938463463374607431768211456 % 340282366920938463463374607431768211456 + (340282366920938463463374607431768211456 - B / 340282366920938463463374607431768211456 % 340282366920938463463374607431768211456)) 1) (wd_wd (A / 340282366920938463463374607431768211456 % 340282366920938463463374607431768211456 + (340282366920938463463374607431768211456 - B / 340282366920938463463374607431768211456 % 340282366920938463463374607431768211456)) 0) ⟨by omega, by omega⟩ ⟨by omega, by omega⟩
      rw [v2_wd, show v2 0 1 = 1 from rfl] at C4
      have e0 : wd (A - B) 0 = wd (A % 340282366920938463463374607431768211456 + (340282366920938463463374607431768211456 - B % 340282366920938463463374607431768211456)) 0 := by rw [wd0, wd0]; omega
      have e1 : wd (A - B) 1 = wd (A % 340282366920938463463374607431768211456 + (340282366920938463463374607431768211456 - B % 340282366920938463463374607431768211456)) 1 := by rw [wd1, wd1]; omega
      have e2 : wd (A - B) 2 = wd ((A / 340282366920938463463374607431768211456 % 340282366920938463463374607431768211456 + (340282366920938463463374607431768211456 - B / 340282366920938463463374607431768211456 % 340282366920938463463374607431768211456)) % 340282366920938463463374607431768211456 + (340282366920938463463374607431768211456 - 1)) 0 := by rw [wd2, wd0]; omega
      have e3 : wd (A - B) 3 = wd ((A / 340282366920938463463374607431768211456 % 340282366920938463463374607431768211456 + (340282366920938463463374607431768211456 - B / 340282366920938463463374607431768211456 % 340282366920938463463374607431768211456)) % 340282366920938463463374607431768211456 + (340282366920938463463374607431768211456 - 1)) 1 := by rw [wd3, wd1]; omega
      rw [e0, e1, e2, e3]
      exact minus_gt_true _ _ _ _ _ _ _ _ _ _ _ _ _ _ _ _ _ hc w C1 C2 C3 C4
    · rw [decide_eq_false d] at C2
      have e0 : wd (A - B) 0 = wd (A % 340282366920938463463374607431768211456 + (340282366920938463463374607431768211456 - B % 340282366920938463463374607431768211456)) 0 := by rw [wd0, wd0]; omega
      have e1 : wd (A - B) 1 = wd (A % 340282366920938463463374607431768211456 + (340282366920938463463374607431768211456 - B % 340282366920938463463374607431768211456)) 1 := by rw [wd1, wd1]; omega
      have e2 : wd (A - B) 2 = wd (A / 340282366920938463463374607431768211456 % 340282366920938463463374607431768211456 + (340282366920938463463374607431768211456 - B / 340282366920938463463374607431768211456 % 340282366920938463463374607431768211456)) 0 := by rw [wd2, wd0]; omega
      have e3 : wd (A - B) 3 = wd (A / 340282366920938463463374607431768211456 % 340282366920938463463374607431768211456 + (340282366920938463463374607431768211456 - B / 340282366920938463463374607431768211456 % 340282366920938463463374607431768211456)) 1 := by rw [wd3, wd1]; omega
      rw [e0, e1, e2, e3]
      exact minus_gt_false _ _ _ _ _ _ _ _ _ _ _ _ _ _ hc w C1 C2 C3
end Go.Proofs.Ytgcblfaommhpbaa
