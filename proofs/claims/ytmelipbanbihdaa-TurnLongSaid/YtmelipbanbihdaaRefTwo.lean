/- The document's product of two wide numbers. -/
import Derived.Test.YtmelipbanbihdaaRefSum
import Derived.Test.YtmelipbanbihdaaRefMul
namespace Go.Proofs.Ytmelipbanbihdaa
open Go.RowKit

theorem field_sum (x0 x1 x2 : Value) (w : World) : (Instr.field 66 (.agg #[x0, x1, x2]) 0).run Try.prog w = .ok (.agg #[x0, x1]) w := by kernel_rfl
set_option maxRecDepth 20000 in
set_option maxHeartbeats 4000000 in
theorem plus_hi (a3 a2 a1 a0 b1 b0 n1 n0 : Int) (c : Bool)  (w : World)
    (C1 : ∀ W, Calls Try.prog 41 #[.agg #[.int .u64 a3, .int .u64 a2], .agg #[.int .u64 b1, .int .u64 b0]] W fun e w' => e = .returned (.agg #[.int .u64 n1, .int .u64 n0, .bool c]) ∧ Below W.heap.size W w') :
    Calls Try.prog 58 #[.agg #[.int .u64 a3, .int .u64 a2, .int .u64 a1, .int .u64 a0], .agg #[.int .u64 b1, .int .u64 b0], .bool false] w fun e w' => e = .returned (.agg #[.int .u64 n1, .int .u64 n0, .int .u64 a1, .int .u64 a0]) ∧ Below w.heap.size w w' := by
  have K1 := Lib.hid C1
  clear C1
  have fld := field_sum
  go_enter Try.func58, Try.ntmps58
  go_upto_region 2 with fail
  refine name_world (P := fun W => Code.wp _ _ _ _ W) _ (fun R1 hR1 => ?_)
  have zR1_a : w.heap.size < R1.heap.size := by rw [hR1]; first | omega | (simp <;> omega)
  have yR1_a : w.heap.size < R1.heap.size + 1 := by omega
  have yyR1_a : w.heap.size < R1.heap.size + 1 + 1 := by omega
  have cR1_a_0 : R1.cell? ⟨w.heap.size, 0, none⟩ = some (.int .u64 a3) := by rw [hR1]; first | assumption | (simp [go_sem, *]; done)
  have cR1_a_1 : R1.cell? ⟨w.heap.size, 1, none⟩ = some (.int .u64 a2) := by rw [hR1]; first | assumption | (simp [go_sem, *]; done)
  have cR1_a_2 : R1.cell? ⟨w.heap.size, 2, none⟩ = some (.int .u64 a1) := by rw [hR1]; first | assumption | (simp [go_sem, *]; done)
  have cR1_a_3 : R1.cell? ⟨w.heap.size, 3, none⟩ = some (.int .u64 a0) := by rw [hR1]; first | assumption | (simp [go_sem, *]; done)
  have fR1_a : ∀ j, R1.frozen? ⟨w.heap.size, j, none⟩ = false := fun j => by rw [hR1]; first | (simp [go_sem, *]; done) | (simp only [frozen?_alloc_cells]; rw [hfrw0 _ _ (by first | omega | (simp <;> omega))]; simp [frozen?_alloc_cells, World.frozen?]; done) | (simp [frozen?_alloc_cells, World.frozen?, *]; done)
  have lo_a : w.heap.size ≤ w.heap.size := by omega
  have zR1_b : w.heap.size + 1 < R1.heap.size := by rw [hR1]; first | omega | (simp <;> omega)
  have yR1_b : w.heap.size + 1 < R1.heap.size + 1 := by omega
  have yyR1_b : w.heap.size + 1 < R1.heap.size + 1 + 1 := by omega
  have cR1_b_0 : R1.cell? ⟨w.heap.size + 1, 0, none⟩ = some (.int .u64 b1) := by rw [hR1]; first | assumption | (simp [go_sem, *]; done)
  have cR1_b_1 : R1.cell? ⟨w.heap.size + 1, 1, none⟩ = some (.int .u64 b0) := by rw [hR1]; first | assumption | (simp [go_sem, *]; done)
  have zR1_r : w.heap.size + 1 + 1 < R1.heap.size := by rw [hR1]; first | omega | (simp <;> omega)
  have yR1_r : w.heap.size + 1 + 1 < R1.heap.size + 1 := by omega
  have yyR1_r : w.heap.size + 1 + 1 < R1.heap.size + 1 + 1 := by omega
  have cR1_r_0 : R1.cell? ⟨w.heap.size + 1 + 1, 0, none⟩ = some (.int .u64 0) := by rw [hR1]; first | assumption | (simp [go_sem, *]; done)
  have cR1_r_1 : R1.cell? ⟨w.heap.size + 1 + 1, 1, none⟩ = some (.int .u64 0) := by rw [hR1]; first | assumption | (simp [go_sem, *]; done)
  have cR1_r_2 : R1.cell? ⟨w.heap.size + 1 + 1, 2, none⟩ = some (.int .u64 0) := by rw [hR1]; first | assumption | (simp [go_sem, *]; done)
  have cR1_r_3 : R1.cell? ⟨w.heap.size + 1 + 1, 3, none⟩ = some (.int .u64 0) := by rw [hR1]; first | assumption | (simp [go_sem, *]; done)
  have fR1_r : ∀ j, R1.frozen? ⟨w.heap.size + 1 + 1, j, none⟩ = false := fun j => by rw [hR1]; first | (simp [go_sem, *]; done) | (simp only [frozen?_alloc_cells]; rw [hfrw0 _ _ (by first | omega | (simp <;> omega))]; simp [frozen?_alloc_cells, World.frozen?]; done) | (simp [frozen?_alloc_cells, World.frozen?, *]; done)
  have lo_r : w.heap.size ≤ w.heap.size + 1 + 1 := by omega
  have na_a_b : ¬ (w.heap.size = w.heap.size + 1) := by omega
  have nb_a_b : ¬ (w.heap.size + 1 = w.heap.size) := by omega
  have na_a_r : ¬ (w.heap.size = w.heap.size + 1 + 1) := by omega
  have nb_a_r : ¬ (w.heap.size + 1 + 1 = w.heap.size) := by omega
  have na_r_a : ¬ (w.heap.size + 1 + 1 = w.heap.size) := by omega
  have nb_r_a : ¬ (w.heap.size = w.heap.size + 1 + 1) := by omega
  have na_r_b : ¬ (w.heap.size + 1 + 1 = w.heap.size + 1) := by omega
  have nb_r_b : ¬ (w.heap.size + 1 = w.heap.size + 1 + 1) := by omega
  have HBR1 : Hid (Below w.heap.size w R1) := by rw [hR1]; show Below _ _ _; exact (by repeat (first | with_reducible exact Below.refl _ _ | with_reducible exact Hid.out (by assumption) | with_reducible refine Below.setCell ?_ (by first | (simp; done) | omega | (simp <;> omega)) _ | with_reducible refine bl_al ?_ _ | with_reducible apply Below.drew))
  clear hR1
  go_wp2_with fail
  (with_reducible refine (K1.out _).mono ?_); rintro e w1 ⟨rfl, hb⟩; obtain ⟨hclw1, hfrw1⟩ := bcell hb; have zw1_a : w.heap.size < w1.heap.size := (by first | omega | (have hz := hb.size; (try simp at hz); omega)); have yw1_a : w.heap.size < w1.heap.size + 1 := (by omega); have yyw1_a : w.heap.size < w1.heap.size + 1 + 1 := (by omega); have zw1_b : w.heap.size + 1 < w1.heap.size := (by first | omega | (have hz := hb.size; (try simp at hz); omega)); have yw1_b : w.heap.size + 1 < w1.heap.size + 1 := (by omega); have yyw1_b : w.heap.size + 1 < w1.heap.size + 1 + 1 := (by omega); have zw1_r : w.heap.size + 1 + 1 < w1.heap.size := (by first | omega | (have hz := hb.size; (try simp at hz); omega)); have yw1_r : w.heap.size + 1 + 1 < w1.heap.size + 1 := (by omega); have yyw1_r : w.heap.size + 1 + 1 < w1.heap.size + 1 + 1 := (by omega); have sxw1_0 : R1.heap.size ≤ w1.heap.size := (by first | omega | (have hz := hb.size; (try simp at hz); omega)); have HBw1 : Hid (Below w.heap.size w w1) := (bl_trans (by repeat (first | with_reducible exact Below.refl _ _ | with_reducible exact Hid.out (by assumption) | with_reducible refine Below.setCell ?_ (by first | (simp; done) | omega | (simp <;> omega)) _ | with_reducible refine bl_al ?_ _ | with_reducible apply Below.drew)) hb); clear hb
  have fw1_a : ∀ j, w1.frozen? ⟨w.heap.size, j, none⟩ = false := fun j => by rw [hfrw1 _ _ (by first | exact zR1_a | (simp; exact zR1_a))]; exact fR1_a j
  have fw1_r : ∀ j, w1.frozen? ⟨w.heap.size + 1 + 1, j, none⟩ = false := fun j => by rw [hfrw1 _ _ (by first | exact zR1_r | (simp; exact zR1_r))]; exact fR1_r j
  go_wp2_with fail
  refine bodyPost_ret (by simp [results, Try.results58, go_sem, *]; try rfl) rfl ?_
  exact ⟨rfl, by repeat (first | with_reducible exact Below.refl _ _ | with_reducible exact Hid.out (by assumption) | with_reducible refine Below.setCell ?_ (by first | (simp; done) | omega | (simp <;> omega)) _ | with_reducible refine bl_al ?_ _ | with_reducible apply Below.drew)⟩
set_option maxRecDepth 20000 in
set_option maxHeartbeats 4000000 in
theorem plus_mid_false (a3 a2 a1 a0 b1 b0 l1 l0 n1 n0 : Int) (e' : Bool)  (w : World)
    (C1 : ∀ W, Calls Try.prog 41 #[.agg #[.int .u64 a1, .int .u64 a0], .agg #[.int .u64 b0, .int .u64 0]] W fun e w' => e = .returned (.agg #[.int .u64 l1, .int .u64 l0, .bool false]) ∧ Below W.heap.size W w')
    (C2 : ∀ W, Calls Try.prog 41 #[.agg #[.int .u64 a3, .int .u64 a2], .agg #[.int .u64 0, .int .u64 b1]] W fun e w' => e = .returned (.agg #[.int .u64 n1, .int .u64 n0, .bool e']) ∧ Below W.heap.size W w') :
    Calls Try.prog 58 #[.agg #[.int .u64 a3, .int .u64 a2, .int .u64 a1, .int .u64 a0], .agg #[.int .u64 b1, .int .u64 b0], .bool true] w fun e w' => e = .returned (.agg #[.int .u64 n1, .int .u64 n0, .int .u64 l1, .int .u64 l0]) ∧ Below w.heap.size w w' := by
  have K1 := Lib.hid C1; have K2 := Lib.hid C2
  clear C1 C2
  have fld := field_sum
  go_enter Try.func58, Try.ntmps58
  go_upto_region 4 with fail
  refine name_world (P := fun W => Code.wp _ _ _ _ W) _ (fun R1 hR1 => ?_)
  have zR1_a : w.heap.size < R1.heap.size := by rw [hR1]; first | omega | (simp <;> omega)
  have yR1_a : w.heap.size < R1.heap.size + 1 := by omega
  have yyR1_a : w.heap.size < R1.heap.size + 1 + 1 := by omega
  have cR1_a_0 : R1.cell? ⟨w.heap.size, 0, none⟩ = some (.int .u64 a3) := by rw [hR1]; first | assumption | (simp [go_sem, *]; done)
  have cR1_a_1 : R1.cell? ⟨w.heap.size, 1, none⟩ = some (.int .u64 a2) := by rw [hR1]; first | assumption | (simp [go_sem, *]; done)
  have cR1_a_2 : R1.cell? ⟨w.heap.size, 2, none⟩ = some (.int .u64 a1) := by rw [hR1]; first | assumption | (simp [go_sem, *]; done)
  have cR1_a_3 : R1.cell? ⟨w.heap.size, 3, none⟩ = some (.int .u64 a0) := by rw [hR1]; first | assumption | (simp [go_sem, *]; done)
  have fR1_a : ∀ j, R1.frozen? ⟨w.heap.size, j, none⟩ = false := fun j => by rw [hR1]; first | (simp [go_sem, *]; done) | (simp only [frozen?_alloc_cells]; rw [hfrw0 _ _ (by first | omega | (simp <;> omega))]; simp [frozen?_alloc_cells, World.frozen?]; done) | (simp [frozen?_alloc_cells, World.frozen?, *]; done)
  have lo_a : w.heap.size ≤ w.heap.size := by omega
  have zR1_b : w.heap.size + 1 < R1.heap.size := by rw [hR1]; first | omega | (simp <;> omega)
  have yR1_b : w.heap.size + 1 < R1.heap.size + 1 := by omega
  have yyR1_b : w.heap.size + 1 < R1.heap.size + 1 + 1 := by omega
  have cR1_b_0 : R1.cell? ⟨w.heap.size + 1, 0, none⟩ = some (.int .u64 b1) := by rw [hR1]; first | assumption | (simp [go_sem, *]; done)
  have cR1_b_1 : R1.cell? ⟨w.heap.size + 1, 1, none⟩ = some (.int .u64 b0) := by rw [hR1]; first | assumption | (simp [go_sem, *]; done)
  have zR1_r : w.heap.size + 1 + 1 < R1.heap.size := by rw [hR1]; first | omega | (simp <;> omega)
  have yR1_r : w.heap.size + 1 + 1 < R1.heap.size + 1 := by omega
  have yyR1_r : w.heap.size + 1 + 1 < R1.heap.size + 1 + 1 := by omega
  have cR1_r_0 : R1.cell? ⟨w.heap.size + 1 + 1, 0, none⟩ = some (.int .u64 0) := by rw [hR1]; first | assumption | (simp [go_sem, *]; done)
  have cR1_r_1 : R1.cell? ⟨w.heap.size + 1 + 1, 1, none⟩ = some (.int .u64 0) := by rw [hR1]; first | assumption | (simp [go_sem, *]; done)
  have cR1_r_2 : R1.cell? ⟨w.heap.size + 1 + 1, 2, none⟩ = some (.int .u64 0) := by rw [hR1]; first | assumption | (simp [go_sem, *]; done)
  have cR1_r_3 : R1.cell? ⟨w.heap.size + 1 + 1, 3, none⟩ = some (.int .u64 0) := by rw [hR1]; first | assumption | (simp [go_sem, *]; done)
  have fR1_r : ∀ j, R1.frozen? ⟨w.heap.size + 1 + 1, j, none⟩ = false := fun j => by rw [hR1]; first | (simp [go_sem, *]; done) | (simp only [frozen?_alloc_cells]; rw [hfrw0 _ _ (by first | omega | (simp <;> omega))]; simp [frozen?_alloc_cells, World.frozen?]; done) | (simp [frozen?_alloc_cells, World.frozen?, *]; done)
  have lo_r : w.heap.size ≤ w.heap.size + 1 + 1 := by omega
  have na_a_b : ¬ (w.heap.size = w.heap.size + 1) := by omega
  have nb_a_b : ¬ (w.heap.size + 1 = w.heap.size) := by omega
  have na_a_r : ¬ (w.heap.size = w.heap.size + 1 + 1) := by omega
  have nb_a_r : ¬ (w.heap.size + 1 + 1 = w.heap.size) := by omega
  have na_r_a : ¬ (w.heap.size + 1 + 1 = w.heap.size) := by omega
  have nb_r_a : ¬ (w.heap.size = w.heap.size + 1 + 1) := by omega
  have na_r_b : ¬ (w.heap.size + 1 + 1 = w.heap.size + 1) := by omega
  have nb_r_b : ¬ (w.heap.size + 1 = w.heap.size + 1 + 1) := by omega
  have HBR1 : Hid (Below w.heap.size w R1) := by rw [hR1]; show Below _ _ _; exact (by repeat (first | with_reducible exact Below.refl _ _ | with_reducible exact Hid.out (by assumption) | with_reducible refine Below.setCell ?_ (by first | (simp; done) | omega | (simp <;> omega)) _ | with_reducible refine bl_al ?_ _ | with_reducible apply Below.drew))
  clear hR1
  go_wp2_with fail
  (with_reducible refine (K1.out _).mono ?_); rintro e w1 ⟨rfl, hb⟩; obtain ⟨hclw1, hfrw1⟩ := bcell hb; have zw1_a : w.heap.size < w1.heap.size := (by first | omega | (have hz := hb.size; (try simp at hz); omega)); have yw1_a : w.heap.size < w1.heap.size + 1 := (by omega); have yyw1_a : w.heap.size < w1.heap.size + 1 + 1 := (by omega); have zw1_b : w.heap.size + 1 < w1.heap.size := (by first | omega | (have hz := hb.size; (try simp at hz); omega)); have yw1_b : w.heap.size + 1 < w1.heap.size + 1 := (by omega); have yyw1_b : w.heap.size + 1 < w1.heap.size + 1 + 1 := (by omega); have zw1_r : w.heap.size + 1 + 1 < w1.heap.size := (by first | omega | (have hz := hb.size; (try simp at hz); omega)); have yw1_r : w.heap.size + 1 + 1 < w1.heap.size + 1 := (by omega); have yyw1_r : w.heap.size + 1 + 1 < w1.heap.size + 1 + 1 := (by omega); have sxw1_0 : R1.heap.size ≤ w1.heap.size := (by first | omega | (have hz := hb.size; (try simp at hz); omega)); have HBw1 : Hid (Below w.heap.size w w1) := (bl_trans (by repeat (first | with_reducible exact Below.refl _ _ | with_reducible exact Hid.out (by assumption) | with_reducible refine Below.setCell ?_ (by first | (simp; done) | omega | (simp <;> omega)) _ | with_reducible refine bl_al ?_ _ | with_reducible apply Below.drew)) hb); clear hb
  have fw1_a : ∀ j, w1.frozen? ⟨w.heap.size, j, none⟩ = false := fun j => by rw [hfrw1 _ _ (by first | exact zR1_a | (simp; exact zR1_a))]; exact fR1_a j
  have fw1_r : ∀ j, w1.frozen? ⟨w.heap.size + 1 + 1, j, none⟩ = false := fun j => by rw [hfrw1 _ _ (by first | exact zR1_r | (simp; exact zR1_r))]; exact fR1_r j
  go_upto_region 9 with fail
  refine name_world (P := fun W => Code.wp _ _ _ _ W) _ (fun R2 hR2 => ?_)
  have zR2_a : w.heap.size < R2.heap.size := by rw [hR2]; first | omega | (simp <;> omega)
  have yR2_a : w.heap.size < R2.heap.size + 1 := by omega
  have yyR2_a : w.heap.size < R2.heap.size + 1 + 1 := by omega
  have cR2_a_0 : R2.cell? ⟨w.heap.size, 0, none⟩ = some (.int .u64 a3) := by rw [hR2]; first | assumption | (simp [go_sem, *]; done)
  have cR2_a_1 : R2.cell? ⟨w.heap.size, 1, none⟩ = some (.int .u64 a2) := by rw [hR2]; first | assumption | (simp [go_sem, *]; done)
  have cR2_a_2 : R2.cell? ⟨w.heap.size, 2, none⟩ = some (.int .u64 l1) := by rw [hR2]; first | assumption | (simp [go_sem, *]; done)
  have cR2_a_3 : R2.cell? ⟨w.heap.size, 3, none⟩ = some (.int .u64 l0) := by rw [hR2]; first | assumption | (simp [go_sem, *]; done)
  have fR2_a : ∀ j, R2.frozen? ⟨w.heap.size, j, none⟩ = false := fun j => by rw [hR2]; first | (simp [go_sem, *]; done) | (simp only [frozen?_alloc_cells]; rw [hfrw1 _ _ (by first | omega | (simp <;> omega))]; simp [frozen?_alloc_cells, World.frozen?]; done) | (simp [frozen?_alloc_cells, World.frozen?, *]; done)
  have zR2_b : w.heap.size + 1 < R2.heap.size := by rw [hR2]; first | omega | (simp <;> omega)
  have yR2_b : w.heap.size + 1 < R2.heap.size + 1 := by omega
  have yyR2_b : w.heap.size + 1 < R2.heap.size + 1 + 1 := by omega
  have cR2_b_0 : R2.cell? ⟨w.heap.size + 1, 0, none⟩ = some (.int .u64 b1) := by rw [hR2]; first | assumption | (simp [go_sem, *]; done)
  have cR2_b_1 : R2.cell? ⟨w.heap.size + 1, 1, none⟩ = some (.int .u64 b0) := by rw [hR2]; first | assumption | (simp [go_sem, *]; done)
  have zR2_r : w.heap.size + 1 + 1 < R2.heap.size := by rw [hR2]; first | omega | (simp <;> omega)
  have yR2_r : w.heap.size + 1 + 1 < R2.heap.size + 1 := by omega
  have yyR2_r : w.heap.size + 1 + 1 < R2.heap.size + 1 + 1 := by omega
  have cR2_r_0 : R2.cell? ⟨w.heap.size + 1 + 1, 0, none⟩ = some (.int .u64 0) := by rw [hR2]; first | assumption | (simp [go_sem, *]; done)
  have cR2_r_1 : R2.cell? ⟨w.heap.size + 1 + 1, 1, none⟩ = some (.int .u64 0) := by rw [hR2]; first | assumption | (simp [go_sem, *]; done)
  have cR2_r_2 : R2.cell? ⟨w.heap.size + 1 + 1, 2, none⟩ = some (.int .u64 0) := by rw [hR2]; first | assumption | (simp [go_sem, *]; done)
  have cR2_r_3 : R2.cell? ⟨w.heap.size + 1 + 1, 3, none⟩ = some (.int .u64 0) := by rw [hR2]; first | assumption | (simp [go_sem, *]; done)
  have fR2_r : ∀ j, R2.frozen? ⟨w.heap.size + 1 + 1, j, none⟩ = false := fun j => by rw [hR2]; first | (simp [go_sem, *]; done) | (simp only [frozen?_alloc_cells]; rw [hfrw1 _ _ (by first | omega | (simp <;> omega))]; simp [frozen?_alloc_cells, World.frozen?]; done) | (simp [frozen?_alloc_cells, World.frozen?, *]; done)
  have zR2_s : w1.heap.size < R2.heap.size := by rw [hR2]; first | omega | (simp <;> omega)
  have yR2_s : w1.heap.size < R2.heap.size + 1 := by omega
  have yyR2_s : w1.heap.size < R2.heap.size + 1 + 1 := by omega
  have cR2_s_0 : R2.cell? ⟨w1.heap.size, 0, none⟩ = some (.int .u64 l1) := by rw [hR2]; first | assumption | (simp [go_sem, *]; done)
  have cR2_s_1 : R2.cell? ⟨w1.heap.size, 1, none⟩ = some (.int .u64 l0) := by rw [hR2]; first | assumption | (simp [go_sem, *]; done)
  have cR2_s_2 : R2.cell? ⟨w1.heap.size, 2, none⟩ = some (.bool false) := by rw [hR2]; first | assumption | (simp [go_sem, *]; done)
  have zR2_up : w1.heap.size + 1 < R2.heap.size := by rw [hR2]; first | omega | (simp <;> omega)
  have yR2_up : w1.heap.size + 1 < R2.heap.size + 1 := by omega
  have yyR2_up : w1.heap.size + 1 < R2.heap.size + 1 + 1 := by omega
  have cR2_up_0 : R2.cell? ⟨w1.heap.size + 1, 0, none⟩ = some (.int .u64 0) := by rw [hR2]; first | assumption | (simp [go_sem, *]; done)
  have cR2_up_1 : R2.cell? ⟨w1.heap.size + 1, 1, none⟩ = some (.int .u64 b1) := by rw [hR2]; first | assumption | (simp [go_sem, *]; done)
  have fR2_up : ∀ j, R2.frozen? ⟨w1.heap.size + 1, j, none⟩ = false := fun j => by rw [hR2]; first | (simp [go_sem, *]; done) | (simp only [frozen?_alloc_cells]; rw [hfrw1 _ _ (by first | omega | (simp <;> omega))]; simp [frozen?_alloc_cells, World.frozen?]; done) | (simp [frozen?_alloc_cells, World.frozen?, *]; done)
  have lo_up : w.heap.size ≤ w1.heap.size + 1 := by omega
  have na_a_s : ¬ (w.heap.size = w1.heap.size) := by omega
  have nb_a_s : ¬ (w1.heap.size = w.heap.size) := by omega
  have na_a_up : ¬ (w.heap.size = w1.heap.size + 1) := by omega
  have nb_a_up : ¬ (w1.heap.size + 1 = w.heap.size) := by omega
  have na_r_s : ¬ (w.heap.size + 1 + 1 = w1.heap.size) := by omega
  have nb_r_s : ¬ (w1.heap.size = w.heap.size + 1 + 1) := by omega
  have na_r_up : ¬ (w.heap.size + 1 + 1 = w1.heap.size + 1) := by omega
  have nb_r_up : ¬ (w1.heap.size + 1 = w.heap.size + 1 + 1) := by omega
  have na_up_a : ¬ (w1.heap.size + 1 = w.heap.size) := by omega
  have nb_up_a : ¬ (w.heap.size = w1.heap.size + 1) := by omega
  have na_up_b : ¬ (w1.heap.size + 1 = w.heap.size + 1) := by omega
  have nb_up_b : ¬ (w.heap.size + 1 = w1.heap.size + 1) := by omega
  have na_up_r : ¬ (w1.heap.size + 1 = w.heap.size + 1 + 1) := by omega
  have nb_up_r : ¬ (w.heap.size + 1 + 1 = w1.heap.size + 1) := by omega
  have na_up_s : ¬ (w1.heap.size + 1 = w1.heap.size) := by omega
  have nb_up_s : ¬ (w1.heap.size = w1.heap.size + 1) := by omega
  have HBR2 : Hid (Below w.heap.size w R2) := by rw [hR2]; show Below _ _ _; exact (by repeat (first | with_reducible exact Below.refl _ _ | with_reducible exact Hid.out (by assumption) | with_reducible refine Below.setCell ?_ (by first | (simp; done) | omega | (simp <;> omega)) _ | with_reducible refine bl_al ?_ _ | with_reducible apply Below.drew))
  clear hR2
  clear zR1_a yR1_a yyR1_a cR1_a_0 cR1_a_1 cR1_a_2 cR1_a_3 fR1_a zR1_b yR1_b yyR1_b cR1_b_0 cR1_b_1 zR1_r yR1_r yyR1_r cR1_r_0 cR1_r_1 cR1_r_2 cR1_r_3 fR1_r HBR1 zw1_a yw1_a yyw1_a zw1_b yw1_b yyw1_b zw1_r yw1_r yyw1_r sxw1_0 hclw1 hfrw1 HBw1 fw1_a fw1_r
  go_wp2_with fail
  (with_reducible refine (K2.out _).mono ?_); rintro e w2 ⟨rfl, hb⟩; obtain ⟨hclw2, hfrw2⟩ := bcell hb; have zw2_a : w.heap.size < w2.heap.size := (by first | omega | (have hz := hb.size; (try simp at hz); omega)); have yw2_a : w.heap.size < w2.heap.size + 1 := (by omega); have yyw2_a : w.heap.size < w2.heap.size + 1 + 1 := (by omega); have zw2_b : w.heap.size + 1 < w2.heap.size := (by first | omega | (have hz := hb.size; (try simp at hz); omega)); have yw2_b : w.heap.size + 1 < w2.heap.size + 1 := (by omega); have yyw2_b : w.heap.size + 1 < w2.heap.size + 1 + 1 := (by omega); have zw2_r : w.heap.size + 1 + 1 < w2.heap.size := (by first | omega | (have hz := hb.size; (try simp at hz); omega)); have yw2_r : w.heap.size + 1 + 1 < w2.heap.size + 1 := (by omega); have yyw2_r : w.heap.size + 1 + 1 < w2.heap.size + 1 + 1 := (by omega); have zw2_s : w1.heap.size < w2.heap.size := (by first | omega | (have hz := hb.size; (try simp at hz); omega)); have yw2_s : w1.heap.size < w2.heap.size + 1 := (by omega); have yyw2_s : w1.heap.size < w2.heap.size + 1 + 1 := (by omega); have zw2_up : w1.heap.size + 1 < w2.heap.size := (by first | omega | (have hz := hb.size; (try simp at hz); omega)); have yw2_up : w1.heap.size + 1 < w2.heap.size + 1 := (by omega); have yyw2_up : w1.heap.size + 1 < w2.heap.size + 1 + 1 := (by omega); have sxw2_0 : R2.heap.size ≤ w2.heap.size := (by first | omega | (have hz := hb.size; (try simp at hz); omega)); have HBw2 : Hid (Below w.heap.size w w2) := (bl_trans (by repeat (first | with_reducible exact Below.refl _ _ | with_reducible exact Hid.out (by assumption) | with_reducible refine Below.setCell ?_ (by first | (simp; done) | omega | (simp <;> omega)) _ | with_reducible refine bl_al ?_ _ | with_reducible apply Below.drew)) hb); clear hb
  have fw2_a : ∀ j, w2.frozen? ⟨w.heap.size, j, none⟩ = false := fun j => by rw [hfrw2 _ _ (by first | exact zR2_a | (simp; exact zR2_a))]; exact fR2_a j
  have fw2_r : ∀ j, w2.frozen? ⟨w.heap.size + 1 + 1, j, none⟩ = false := fun j => by rw [hfrw2 _ _ (by first | exact zR2_r | (simp; exact zR2_r))]; exact fR2_r j
  have fw2_up : ∀ j, w2.frozen? ⟨w1.heap.size + 1, j, none⟩ = false := fun j => by rw [hfrw2 _ _ (by first | exact zR2_up | (simp; exact zR2_up))]; exact fR2_up j
  go_wp2_with fail
  refine bodyPost_ret (by simp [results, Try.results58, go_sem, *]; try rfl) rfl ?_
  exact ⟨rfl, by repeat (first | with_reducible exact Below.refl _ _ | with_reducible exact Hid.out (by assumption) | with_reducible refine Below.setCell ?_ (by first | (simp; done) | omega | (simp <;> omega)) _ | with_reducible refine bl_al ?_ _ | with_reducible apply Below.drew)⟩
set_option maxRecDepth 20000 in
set_option maxHeartbeats 4000000 in
theorem plus_mid_true (a3 a2 a1 a0 b1 b0 l1 l0 n1 n0 u1 u0 : Int) (d e' : Bool)  (w : World)
    (C1 : ∀ W, Calls Try.prog 41 #[.agg #[.int .u64 a1, .int .u64 a0], .agg #[.int .u64 b0, .int .u64 0]] W fun e w' => e = .returned (.agg #[.int .u64 l1, .int .u64 l0, .bool true]) ∧ Below W.heap.size W w')
    (C2 : ∀ W, Calls Try.prog 41 #[.agg #[.int .u64 0, .int .u64 b1], .agg #[.int .u64 0, .int .u64 1]] W fun e w' => e = .returned (.agg #[.int .u64 u1, .int .u64 u0, .bool d]) ∧ Below W.heap.size W w')
    (C3 : ∀ W, Calls Try.prog 41 #[.agg #[.int .u64 a3, .int .u64 a2], .agg #[.int .u64 u1, .int .u64 u0]] W fun e w' => e = .returned (.agg #[.int .u64 n1, .int .u64 n0, .bool e']) ∧ Below W.heap.size W w') :
    Calls Try.prog 58 #[.agg #[.int .u64 a3, .int .u64 a2, .int .u64 a1, .int .u64 a0], .agg #[.int .u64 b1, .int .u64 b0], .bool true] w fun e w' => e = .returned (.agg #[.int .u64 n1, .int .u64 n0, .int .u64 l1, .int .u64 l0]) ∧ Below w.heap.size w w' := by
  have K1 := Lib.hid C1; have K2 := Lib.hid C2; have K3 := Lib.hid C3
  clear C1 C2 C3
  have fld := field_sum
  go_enter Try.func58, Try.ntmps58
  go_upto_region 4 with fail
  refine name_world (P := fun W => Code.wp _ _ _ _ W) _ (fun R1 hR1 => ?_)
  have zR1_a : w.heap.size < R1.heap.size := by rw [hR1]; first | omega | (simp <;> omega)
  have yR1_a : w.heap.size < R1.heap.size + 1 := by omega
  have yyR1_a : w.heap.size < R1.heap.size + 1 + 1 := by omega
  have cR1_a_0 : R1.cell? ⟨w.heap.size, 0, none⟩ = some (.int .u64 a3) := by rw [hR1]; first | assumption | (simp [go_sem, *]; done)
  have cR1_a_1 : R1.cell? ⟨w.heap.size, 1, none⟩ = some (.int .u64 a2) := by rw [hR1]; first | assumption | (simp [go_sem, *]; done)
  have cR1_a_2 : R1.cell? ⟨w.heap.size, 2, none⟩ = some (.int .u64 a1) := by rw [hR1]; first | assumption | (simp [go_sem, *]; done)
  have cR1_a_3 : R1.cell? ⟨w.heap.size, 3, none⟩ = some (.int .u64 a0) := by rw [hR1]; first | assumption | (simp [go_sem, *]; done)
  have fR1_a : ∀ j, R1.frozen? ⟨w.heap.size, j, none⟩ = false := fun j => by rw [hR1]; first | (simp [go_sem, *]; done) | (simp only [frozen?_alloc_cells]; rw [hfrw0 _ _ (by first | omega | (simp <;> omega))]; simp [frozen?_alloc_cells, World.frozen?]; done) | (simp [frozen?_alloc_cells, World.frozen?, *]; done)
  have lo_a : w.heap.size ≤ w.heap.size := by omega
  have zR1_b : w.heap.size + 1 < R1.heap.size := by rw [hR1]; first | omega | (simp <;> omega)
  have yR1_b : w.heap.size + 1 < R1.heap.size + 1 := by omega
  have yyR1_b : w.heap.size + 1 < R1.heap.size + 1 + 1 := by omega
  have cR1_b_0 : R1.cell? ⟨w.heap.size + 1, 0, none⟩ = some (.int .u64 b1) := by rw [hR1]; first | assumption | (simp [go_sem, *]; done)
  have cR1_b_1 : R1.cell? ⟨w.heap.size + 1, 1, none⟩ = some (.int .u64 b0) := by rw [hR1]; first | assumption | (simp [go_sem, *]; done)
  have zR1_r : w.heap.size + 1 + 1 < R1.heap.size := by rw [hR1]; first | omega | (simp <;> omega)
  have yR1_r : w.heap.size + 1 + 1 < R1.heap.size + 1 := by omega
  have yyR1_r : w.heap.size + 1 + 1 < R1.heap.size + 1 + 1 := by omega
  have cR1_r_0 : R1.cell? ⟨w.heap.size + 1 + 1, 0, none⟩ = some (.int .u64 0) := by rw [hR1]; first | assumption | (simp [go_sem, *]; done)
  have cR1_r_1 : R1.cell? ⟨w.heap.size + 1 + 1, 1, none⟩ = some (.int .u64 0) := by rw [hR1]; first | assumption | (simp [go_sem, *]; done)
  have cR1_r_2 : R1.cell? ⟨w.heap.size + 1 + 1, 2, none⟩ = some (.int .u64 0) := by rw [hR1]; first | assumption | (simp [go_sem, *]; done)
  have cR1_r_3 : R1.cell? ⟨w.heap.size + 1 + 1, 3, none⟩ = some (.int .u64 0) := by rw [hR1]; first | assumption | (simp [go_sem, *]; done)
  have fR1_r : ∀ j, R1.frozen? ⟨w.heap.size + 1 + 1, j, none⟩ = false := fun j => by rw [hR1]; first | (simp [go_sem, *]; done) | (simp only [frozen?_alloc_cells]; rw [hfrw0 _ _ (by first | omega | (simp <;> omega))]; simp [frozen?_alloc_cells, World.frozen?]; done) | (simp [frozen?_alloc_cells, World.frozen?, *]; done)
  have lo_r : w.heap.size ≤ w.heap.size + 1 + 1 := by omega
  have na_a_b : ¬ (w.heap.size = w.heap.size + 1) := by omega
  have nb_a_b : ¬ (w.heap.size + 1 = w.heap.size) := by omega
  have na_a_r : ¬ (w.heap.size = w.heap.size + 1 + 1) := by omega
  have nb_a_r : ¬ (w.heap.size + 1 + 1 = w.heap.size) := by omega
  have na_r_a : ¬ (w.heap.size + 1 + 1 = w.heap.size) := by omega
  have nb_r_a : ¬ (w.heap.size = w.heap.size + 1 + 1) := by omega
  have na_r_b : ¬ (w.heap.size + 1 + 1 = w.heap.size + 1) := by omega
  have nb_r_b : ¬ (w.heap.size + 1 = w.heap.size + 1 + 1) := by omega
  have HBR1 : Hid (Below w.heap.size w R1) := by rw [hR1]; show Below _ _ _; exact (by repeat (first | with_reducible exact Below.refl _ _ | with_reducible exact Hid.out (by assumption) | with_reducible refine Below.setCell ?_ (by first | (simp; done) | omega | (simp <;> omega)) _ | with_reducible refine bl_al ?_ _ | with_reducible apply Below.drew))
  clear hR1
  go_wp2_with fail
  (with_reducible refine (K1.out _).mono ?_); rintro e w1 ⟨rfl, hb⟩; obtain ⟨hclw1, hfrw1⟩ := bcell hb; have zw1_a : w.heap.size < w1.heap.size := (by first | omega | (have hz := hb.size; (try simp at hz); omega)); have yw1_a : w.heap.size < w1.heap.size + 1 := (by omega); have yyw1_a : w.heap.size < w1.heap.size + 1 + 1 := (by omega); have zw1_b : w.heap.size + 1 < w1.heap.size := (by first | omega | (have hz := hb.size; (try simp at hz); omega)); have yw1_b : w.heap.size + 1 < w1.heap.size + 1 := (by omega); have yyw1_b : w.heap.size + 1 < w1.heap.size + 1 + 1 := (by omega); have zw1_r : w.heap.size + 1 + 1 < w1.heap.size := (by first | omega | (have hz := hb.size; (try simp at hz); omega)); have yw1_r : w.heap.size + 1 + 1 < w1.heap.size + 1 := (by omega); have yyw1_r : w.heap.size + 1 + 1 < w1.heap.size + 1 + 1 := (by omega); have sxw1_0 : R1.heap.size ≤ w1.heap.size := (by first | omega | (have hz := hb.size; (try simp at hz); omega)); have HBw1 : Hid (Below w.heap.size w w1) := (bl_trans (by repeat (first | with_reducible exact Below.refl _ _ | with_reducible exact Hid.out (by assumption) | with_reducible refine Below.setCell ?_ (by first | (simp; done) | omega | (simp <;> omega)) _ | with_reducible refine bl_al ?_ _ | with_reducible apply Below.drew)) hb); clear hb
  have fw1_a : ∀ j, w1.frozen? ⟨w.heap.size, j, none⟩ = false := fun j => by rw [hfrw1 _ _ (by first | exact zR1_a | (simp; exact zR1_a))]; exact fR1_a j
  have fw1_r : ∀ j, w1.frozen? ⟨w.heap.size + 1 + 1, j, none⟩ = false := fun j => by rw [hfrw1 _ _ (by first | exact zR1_r | (simp; exact zR1_r))]; exact fR1_r j
  go_upto_region 8 with fail
  refine name_world (P := fun W => Code.wp _ _ _ _ W) _ (fun R2 hR2 => ?_)
  have zR2_a : w.heap.size < R2.heap.size := by rw [hR2]; first | omega | (simp <;> omega)
  have yR2_a : w.heap.size < R2.heap.size + 1 := by omega
  have yyR2_a : w.heap.size < R2.heap.size + 1 + 1 := by omega
  have cR2_a_0 : R2.cell? ⟨w.heap.size, 0, none⟩ = some (.int .u64 a3) := by rw [hR2]; first | assumption | (simp [go_sem, *]; done)
  have cR2_a_1 : R2.cell? ⟨w.heap.size, 1, none⟩ = some (.int .u64 a2) := by rw [hR2]; first | assumption | (simp [go_sem, *]; done)
  have cR2_a_2 : R2.cell? ⟨w.heap.size, 2, none⟩ = some (.int .u64 l1) := by rw [hR2]; first | assumption | (simp [go_sem, *]; done)
  have cR2_a_3 : R2.cell? ⟨w.heap.size, 3, none⟩ = some (.int .u64 l0) := by rw [hR2]; first | assumption | (simp [go_sem, *]; done)
  have fR2_a : ∀ j, R2.frozen? ⟨w.heap.size, j, none⟩ = false := fun j => by rw [hR2]; first | (simp [go_sem, *]; done) | (simp only [frozen?_alloc_cells]; rw [hfrw1 _ _ (by first | omega | (simp <;> omega))]; simp [frozen?_alloc_cells, World.frozen?]; done) | (simp [frozen?_alloc_cells, World.frozen?, *]; done)
  have zR2_b : w.heap.size + 1 < R2.heap.size := by rw [hR2]; first | omega | (simp <;> omega)
  have yR2_b : w.heap.size + 1 < R2.heap.size + 1 := by omega
  have yyR2_b : w.heap.size + 1 < R2.heap.size + 1 + 1 := by omega
  have cR2_b_0 : R2.cell? ⟨w.heap.size + 1, 0, none⟩ = some (.int .u64 b1) := by rw [hR2]; first | assumption | (simp [go_sem, *]; done)
  have cR2_b_1 : R2.cell? ⟨w.heap.size + 1, 1, none⟩ = some (.int .u64 b0) := by rw [hR2]; first | assumption | (simp [go_sem, *]; done)
  have zR2_r : w.heap.size + 1 + 1 < R2.heap.size := by rw [hR2]; first | omega | (simp <;> omega)
  have yR2_r : w.heap.size + 1 + 1 < R2.heap.size + 1 := by omega
  have yyR2_r : w.heap.size + 1 + 1 < R2.heap.size + 1 + 1 := by omega
  have cR2_r_0 : R2.cell? ⟨w.heap.size + 1 + 1, 0, none⟩ = some (.int .u64 0) := by rw [hR2]; first | assumption | (simp [go_sem, *]; done)
  have cR2_r_1 : R2.cell? ⟨w.heap.size + 1 + 1, 1, none⟩ = some (.int .u64 0) := by rw [hR2]; first | assumption | (simp [go_sem, *]; done)
  have cR2_r_2 : R2.cell? ⟨w.heap.size + 1 + 1, 2, none⟩ = some (.int .u64 0) := by rw [hR2]; first | assumption | (simp [go_sem, *]; done)
  have cR2_r_3 : R2.cell? ⟨w.heap.size + 1 + 1, 3, none⟩ = some (.int .u64 0) := by rw [hR2]; first | assumption | (simp [go_sem, *]; done)
  have fR2_r : ∀ j, R2.frozen? ⟨w.heap.size + 1 + 1, j, none⟩ = false := fun j => by rw [hR2]; first | (simp [go_sem, *]; done) | (simp only [frozen?_alloc_cells]; rw [hfrw1 _ _ (by first | omega | (simp <;> omega))]; simp [frozen?_alloc_cells, World.frozen?]; done) | (simp [frozen?_alloc_cells, World.frozen?, *]; done)
  have zR2_s : w1.heap.size < R2.heap.size := by rw [hR2]; first | omega | (simp <;> omega)
  have yR2_s : w1.heap.size < R2.heap.size + 1 := by omega
  have yyR2_s : w1.heap.size < R2.heap.size + 1 + 1 := by omega
  have cR2_s_0 : R2.cell? ⟨w1.heap.size, 0, none⟩ = some (.int .u64 l1) := by rw [hR2]; first | assumption | (simp [go_sem, *]; done)
  have cR2_s_1 : R2.cell? ⟨w1.heap.size, 1, none⟩ = some (.int .u64 l0) := by rw [hR2]; first | assumption | (simp [go_sem, *]; done)
  have cR2_s_2 : R2.cell? ⟨w1.heap.size, 2, none⟩ = some (.bool true) := by rw [hR2]; first | assumption | (simp [go_sem, *]; done)
  have zR2_up : w1.heap.size + 1 < R2.heap.size := by rw [hR2]; first | omega | (simp <;> omega)
  have yR2_up : w1.heap.size + 1 < R2.heap.size + 1 := by omega
  have yyR2_up : w1.heap.size + 1 < R2.heap.size + 1 + 1 := by omega
  have cR2_up_0 : R2.cell? ⟨w1.heap.size + 1, 0, none⟩ = some (.int .u64 0) := by rw [hR2]; first | assumption | (simp [go_sem, *]; done)
  have cR2_up_1 : R2.cell? ⟨w1.heap.size + 1, 1, none⟩ = some (.int .u64 b1) := by rw [hR2]; first | assumption | (simp [go_sem, *]; done)
  have fR2_up : ∀ j, R2.frozen? ⟨w1.heap.size + 1, j, none⟩ = false := fun j => by rw [hR2]; first | (simp [go_sem, *]; done) | (simp only [frozen?_alloc_cells]; rw [hfrw1 _ _ (by first | omega | (simp <;> omega))]; simp [frozen?_alloc_cells, World.frozen?]; done) | (simp [frozen?_alloc_cells, World.frozen?, *]; done)
  have lo_up : w.heap.size ≤ w1.heap.size + 1 := by omega
  have na_a_s : ¬ (w.heap.size = w1.heap.size) := by omega
  have nb_a_s : ¬ (w1.heap.size = w.heap.size) := by omega
  have na_a_up : ¬ (w.heap.size = w1.heap.size + 1) := by omega
  have nb_a_up : ¬ (w1.heap.size + 1 = w.heap.size) := by omega
  have na_r_s : ¬ (w.heap.size + 1 + 1 = w1.heap.size) := by omega
  have nb_r_s : ¬ (w1.heap.size = w.heap.size + 1 + 1) := by omega
  have na_r_up : ¬ (w.heap.size + 1 + 1 = w1.heap.size + 1) := by omega
  have nb_r_up : ¬ (w1.heap.size + 1 = w.heap.size + 1 + 1) := by omega
  have na_up_a : ¬ (w1.heap.size + 1 = w.heap.size) := by omega
  have nb_up_a : ¬ (w.heap.size = w1.heap.size + 1) := by omega
  have na_up_b : ¬ (w1.heap.size + 1 = w.heap.size + 1) := by omega
  have nb_up_b : ¬ (w.heap.size + 1 = w1.heap.size + 1) := by omega
  have na_up_r : ¬ (w1.heap.size + 1 = w.heap.size + 1 + 1) := by omega
  have nb_up_r : ¬ (w.heap.size + 1 + 1 = w1.heap.size + 1) := by omega
  have na_up_s : ¬ (w1.heap.size + 1 = w1.heap.size) := by omega
  have nb_up_s : ¬ (w1.heap.size = w1.heap.size + 1) := by omega
  have HBR2 : Hid (Below w.heap.size w R2) := by rw [hR2]; show Below _ _ _; exact (by repeat (first | with_reducible exact Below.refl _ _ | with_reducible exact Hid.out (by assumption) | with_reducible refine Below.setCell ?_ (by first | (simp; done) | omega | (simp <;> omega)) _ | with_reducible refine bl_al ?_ _ | with_reducible apply Below.drew))
  clear hR2
  clear zR1_a yR1_a yyR1_a cR1_a_0 cR1_a_1 cR1_a_2 cR1_a_3 fR1_a zR1_b yR1_b yyR1_b cR1_b_0 cR1_b_1 zR1_r yR1_r yyR1_r cR1_r_0 cR1_r_1 cR1_r_2 cR1_r_3 fR1_r HBR1 zw1_a yw1_a yyw1_a zw1_b yw1_b yyw1_b zw1_r yw1_r yyw1_r sxw1_0 hclw1 hfrw1 HBw1 fw1_a fw1_r
  go_wp2_with fail
  (with_reducible refine (K2.out _).mono ?_); rintro e w2 ⟨rfl, hb⟩; obtain ⟨hclw2, hfrw2⟩ := bcell hb; have zw2_a : w.heap.size < w2.heap.size := (by first | omega | (have hz := hb.size; (try simp at hz); omega)); have yw2_a : w.heap.size < w2.heap.size + 1 := (by omega); have yyw2_a : w.heap.size < w2.heap.size + 1 + 1 := (by omega); have zw2_b : w.heap.size + 1 < w2.heap.size := (by first | omega | (have hz := hb.size; (try simp at hz); omega)); have yw2_b : w.heap.size + 1 < w2.heap.size + 1 := (by omega); have yyw2_b : w.heap.size + 1 < w2.heap.size + 1 + 1 := (by omega); have zw2_r : w.heap.size + 1 + 1 < w2.heap.size := (by first | omega | (have hz := hb.size; (try simp at hz); omega)); have yw2_r : w.heap.size + 1 + 1 < w2.heap.size + 1 := (by omega); have yyw2_r : w.heap.size + 1 + 1 < w2.heap.size + 1 + 1 := (by omega); have zw2_s : w1.heap.size < w2.heap.size := (by first | omega | (have hz := hb.size; (try simp at hz); omega)); have yw2_s : w1.heap.size < w2.heap.size + 1 := (by omega); have yyw2_s : w1.heap.size < w2.heap.size + 1 + 1 := (by omega); have zw2_up : w1.heap.size + 1 < w2.heap.size := (by first | omega | (have hz := hb.size; (try simp at hz); omega)); have yw2_up : w1.heap.size + 1 < w2.heap.size + 1 := (by omega); have yyw2_up : w1.heap.size + 1 < w2.heap.size + 1 + 1 := (by omega); have sxw2_0 : R2.heap.size ≤ w2.heap.size := (by first | omega | (have hz := hb.size; (try simp at hz); omega)); have HBw2 : Hid (Below w.heap.size w w2) := (bl_trans (by repeat (first | with_reducible exact Below.refl _ _ | with_reducible exact Hid.out (by assumption) | with_reducible refine Below.setCell ?_ (by first | (simp; done) | omega | (simp <;> omega)) _ | with_reducible refine bl_al ?_ _ | with_reducible apply Below.drew)) hb); clear hb
  have fw2_a : ∀ j, w2.frozen? ⟨w.heap.size, j, none⟩ = false := fun j => by rw [hfrw2 _ _ (by first | exact zR2_a | (simp; exact zR2_a))]; exact fR2_a j
  have fw2_r : ∀ j, w2.frozen? ⟨w.heap.size + 1 + 1, j, none⟩ = false := fun j => by rw [hfrw2 _ _ (by first | exact zR2_r | (simp; exact zR2_r))]; exact fR2_r j
  have fw2_up : ∀ j, w2.frozen? ⟨w1.heap.size + 1, j, none⟩ = false := fun j => by rw [hfrw2 _ _ (by first | exact zR2_up | (simp; exact zR2_up))]; exact fR2_up j
  go_upto_region 9 with fail
  refine name_world (P := fun W => Code.wp _ _ _ _ W) _ (fun R3 hR3 => ?_)
  have zR3_a : w.heap.size < R3.heap.size := by rw [hR3]; first | omega | (simp <;> omega)
  have yR3_a : w.heap.size < R3.heap.size + 1 := by omega
  have yyR3_a : w.heap.size < R3.heap.size + 1 + 1 := by omega
  have cR3_a_0 : R3.cell? ⟨w.heap.size, 0, none⟩ = some (.int .u64 a3) := by rw [hR3]; first | assumption | (simp [go_sem, *]; done)
  have cR3_a_1 : R3.cell? ⟨w.heap.size, 1, none⟩ = some (.int .u64 a2) := by rw [hR3]; first | assumption | (simp [go_sem, *]; done)
  have cR3_a_2 : R3.cell? ⟨w.heap.size, 2, none⟩ = some (.int .u64 l1) := by rw [hR3]; first | assumption | (simp [go_sem, *]; done)
  have cR3_a_3 : R3.cell? ⟨w.heap.size, 3, none⟩ = some (.int .u64 l0) := by rw [hR3]; first | assumption | (simp [go_sem, *]; done)
  have fR3_a : ∀ j, R3.frozen? ⟨w.heap.size, j, none⟩ = false := fun j => by rw [hR3]; first | (simp [go_sem, *]; done) | (simp only [frozen?_alloc_cells]; rw [hfrw2 _ _ (by first | omega | (simp <;> omega))]; simp [frozen?_alloc_cells, World.frozen?]; done) | (simp [frozen?_alloc_cells, World.frozen?, *]; done)
  have zR3_b : w.heap.size + 1 < R3.heap.size := by rw [hR3]; first | omega | (simp <;> omega)
  have yR3_b : w.heap.size + 1 < R3.heap.size + 1 := by omega
  have yyR3_b : w.heap.size + 1 < R3.heap.size + 1 + 1 := by omega
  have cR3_b_0 : R3.cell? ⟨w.heap.size + 1, 0, none⟩ = some (.int .u64 b1) := by rw [hR3]; first | assumption | (simp [go_sem, *]; done)
  have cR3_b_1 : R3.cell? ⟨w.heap.size + 1, 1, none⟩ = some (.int .u64 b0) := by rw [hR3]; first | assumption | (simp [go_sem, *]; done)
  have zR3_r : w.heap.size + 1 + 1 < R3.heap.size := by rw [hR3]; first | omega | (simp <;> omega)
  have yR3_r : w.heap.size + 1 + 1 < R3.heap.size + 1 := by omega
  have yyR3_r : w.heap.size + 1 + 1 < R3.heap.size + 1 + 1 := by omega
  have cR3_r_0 : R3.cell? ⟨w.heap.size + 1 + 1, 0, none⟩ = some (.int .u64 0) := by rw [hR3]; first | assumption | (simp [go_sem, *]; done)
  have cR3_r_1 : R3.cell? ⟨w.heap.size + 1 + 1, 1, none⟩ = some (.int .u64 0) := by rw [hR3]; first | assumption | (simp [go_sem, *]; done)
  have cR3_r_2 : R3.cell? ⟨w.heap.size + 1 + 1, 2, none⟩ = some (.int .u64 0) := by rw [hR3]; first | assumption | (simp [go_sem, *]; done)
  have cR3_r_3 : R3.cell? ⟨w.heap.size + 1 + 1, 3, none⟩ = some (.int .u64 0) := by rw [hR3]; first | assumption | (simp [go_sem, *]; done)
  have fR3_r : ∀ j, R3.frozen? ⟨w.heap.size + 1 + 1, j, none⟩ = false := fun j => by rw [hR3]; first | (simp [go_sem, *]; done) | (simp only [frozen?_alloc_cells]; rw [hfrw2 _ _ (by first | omega | (simp <;> omega))]; simp [frozen?_alloc_cells, World.frozen?]; done) | (simp [frozen?_alloc_cells, World.frozen?, *]; done)
  have zR3_s : w1.heap.size < R3.heap.size := by rw [hR3]; first | omega | (simp <;> omega)
  have yR3_s : w1.heap.size < R3.heap.size + 1 := by omega
  have yyR3_s : w1.heap.size < R3.heap.size + 1 + 1 := by omega
  have cR3_s_0 : R3.cell? ⟨w1.heap.size, 0, none⟩ = some (.int .u64 l1) := by rw [hR3]; first | assumption | (simp [go_sem, *]; done)
  have cR3_s_1 : R3.cell? ⟨w1.heap.size, 1, none⟩ = some (.int .u64 l0) := by rw [hR3]; first | assumption | (simp [go_sem, *]; done)
  have cR3_s_2 : R3.cell? ⟨w1.heap.size, 2, none⟩ = some (.bool true) := by rw [hR3]; first | assumption | (simp [go_sem, *]; done)
  have zR3_up : w1.heap.size + 1 < R3.heap.size := by rw [hR3]; first | omega | (simp <;> omega)
  have yR3_up : w1.heap.size + 1 < R3.heap.size + 1 := by omega
  have yyR3_up : w1.heap.size + 1 < R3.heap.size + 1 + 1 := by omega
  have cR3_up_0 : R3.cell? ⟨w1.heap.size + 1, 0, none⟩ = some (.int .u64 u1) := by rw [hR3]; first | assumption | (simp [go_sem, *]; done)
  have cR3_up_1 : R3.cell? ⟨w1.heap.size + 1, 1, none⟩ = some (.int .u64 u0) := by rw [hR3]; first | assumption | (simp [go_sem, *]; done)
  have fR3_up : ∀ j, R3.frozen? ⟨w1.heap.size + 1, j, none⟩ = false := fun j => by rw [hR3]; first | (simp [go_sem, *]; done) | (simp only [frozen?_alloc_cells]; rw [hfrw2 _ _ (by first | omega | (simp <;> omega))]; simp [frozen?_alloc_cells, World.frozen?]; done) | (simp [frozen?_alloc_cells, World.frozen?, *]; done)
  have HBR3 : Hid (Below w.heap.size w R3) := by rw [hR3]; show Below _ _ _; exact (by repeat (first | with_reducible exact Below.refl _ _ | with_reducible exact Hid.out (by assumption) | with_reducible refine Below.setCell ?_ (by first | (simp; done) | omega | (simp <;> omega)) _ | with_reducible refine bl_al ?_ _ | with_reducible apply Below.drew))
  clear hR3
  clear zR2_a yR2_a yyR2_a cR2_a_0 cR2_a_1 cR2_a_2 cR2_a_3 fR2_a zR2_b yR2_b yyR2_b cR2_b_0 cR2_b_1 zR2_r yR2_r yyR2_r cR2_r_0 cR2_r_1 cR2_r_2 cR2_r_3 fR2_r zR2_s yR2_s yyR2_s cR2_s_0 cR2_s_1 cR2_s_2 zR2_up yR2_up yyR2_up cR2_up_0 cR2_up_1 fR2_up HBR2 zw2_a yw2_a yyw2_a zw2_b yw2_b yyw2_b zw2_r yw2_r yyw2_r zw2_s yw2_s yyw2_s zw2_up yw2_up yyw2_up sxw2_0 hclw2 hfrw2 HBw2 fw2_a fw2_r fw2_up
  go_wp2_with fail
  (with_reducible refine (K3.out _).mono ?_); rintro e w3 ⟨rfl, hb⟩; obtain ⟨hclw3, hfrw3⟩ := bcell hb; have zw3_a : w.heap.size < w3.heap.size := (by first | omega | (have hz := hb.size; (try simp at hz); omega)); have yw3_a : w.heap.size < w3.heap.size + 1 := (by omega); have yyw3_a : w.heap.size < w3.heap.size + 1 + 1 := (by omega); have zw3_b : w.heap.size + 1 < w3.heap.size := (by first | omega | (have hz := hb.size; (try simp at hz); omega)); have yw3_b : w.heap.size + 1 < w3.heap.size + 1 := (by omega); have yyw3_b : w.heap.size + 1 < w3.heap.size + 1 + 1 := (by omega); have zw3_r : w.heap.size + 1 + 1 < w3.heap.size := (by first | omega | (have hz := hb.size; (try simp at hz); omega)); have yw3_r : w.heap.size + 1 + 1 < w3.heap.size + 1 := (by omega); have yyw3_r : w.heap.size + 1 + 1 < w3.heap.size + 1 + 1 := (by omega); have zw3_s : w1.heap.size < w3.heap.size := (by first | omega | (have hz := hb.size; (try simp at hz); omega)); have yw3_s : w1.heap.size < w3.heap.size + 1 := (by omega); have yyw3_s : w1.heap.size < w3.heap.size + 1 + 1 := (by omega); have zw3_up : w1.heap.size + 1 < w3.heap.size := (by first | omega | (have hz := hb.size; (try simp at hz); omega)); have yw3_up : w1.heap.size + 1 < w3.heap.size + 1 := (by omega); have yyw3_up : w1.heap.size + 1 < w3.heap.size + 1 + 1 := (by omega); have sxw3_0 : R3.heap.size ≤ w3.heap.size := (by first | omega | (have hz := hb.size; (try simp at hz); omega)); have HBw3 : Hid (Below w.heap.size w w3) := (bl_trans (by repeat (first | with_reducible exact Below.refl _ _ | with_reducible exact Hid.out (by assumption) | with_reducible refine Below.setCell ?_ (by first | (simp; done) | omega | (simp <;> omega)) _ | with_reducible refine bl_al ?_ _ | with_reducible apply Below.drew)) hb); clear hb
  have fw3_a : ∀ j, w3.frozen? ⟨w.heap.size, j, none⟩ = false := fun j => by rw [hfrw3 _ _ (by first | exact zR3_a | (simp; exact zR3_a))]; exact fR3_a j
  have fw3_r : ∀ j, w3.frozen? ⟨w.heap.size + 1 + 1, j, none⟩ = false := fun j => by rw [hfrw3 _ _ (by first | exact zR3_r | (simp; exact zR3_r))]; exact fR3_r j
  have fw3_up : ∀ j, w3.frozen? ⟨w1.heap.size + 1, j, none⟩ = false := fun j => by rw [hfrw3 _ _ (by first | exact zR3_up | (simp; exact zR3_up))]; exact fR3_up j
  go_wp2_with fail
  refine bodyPost_ret (by simp [results, Try.results58, go_sem, *]; try rfl) rfl ?_
  exact ⟨rfl, by repeat (first | with_reducible exact Below.refl _ _ | with_reducible exact Hid.out (by assumption) | with_reducible refine Below.setCell ?_ (by first | (simp; done) | omega | (simp <;> omega)) _ | with_reducible refine bl_al ?_ _ | with_reducible apply Below.drew)⟩
theorem plus_hi_any (a3 a2 a1 a0 b1 b0 : Int) (h3 : Wd a3) (h2 : Wd a2) (h1 : Wd a1) (h0 : Wd a0) (k1 : Wd b1) (k0 : Wd b0) (w : World) :
    Calls Try.prog 58 #[.agg #[.int .u64 a3, .int .u64 a2, .int .u64 a1, .int .u64 a0], .agg #[.int .u64 b1, .int .u64 b0], .bool false] w fun e w' =>
      e = .returned (.agg #[.int .u64 (wd (v4 a3 a2 a1 a0 + v2 b1 b0 * 340282366920938463463374607431768211456) 3), .int .u64 (wd (v4 a3 a2 a1 a0 + v2 b1 b0 * 340282366920938463463374607431768211456) 2), .int .u64 (wd (v4 a3 a2 a1 a0 + v2 b1 b0 * 340282366920938463463374607431768211456) 1), .int .u64 (wd (v4 a3 a2 a1 a0 + v2 b1 b0 * 340282366920938463463374607431768211456) 0)]) ∧ Below w.heap.size w w' := by
  have e1 : wd (v4 a3 a2 a1 a0 + v2 b1 b0 * 340282366920938463463374607431768211456) 1 = a1 := by have k := wd_v4_1 h3 h2 h1 h0; rw [wd1] at k ⊢; omega
  have e0 : wd (v4 a3 a2 a1 a0 + v2 b1 b0 * 340282366920938463463374607431768211456) 0 = a0 := by have k := wd_v4_0 h3 h2 h1 h0; rw [wd0] at k ⊢; omega
  have hl := v2_lt h1 h0
  have hx : v4 a3 a2 a1 a0 = v2 a3 a2 * 340282366920938463463374607431768211456 + v2 a1 a0 := rfl
  have e3 : wd (v4 a3 a2 a1 a0 + v2 b1 b0 * 340282366920938463463374607431768211456) 3 = wd (v2 a3 a2 + v2 b1 b0) 1 := by rw [hx, wd3, wd1]; omega
  have e2 : wd (v4 a3 a2 a1 a0 + v2 b1 b0 * 340282366920938463463374607431768211456) 2 = wd (v2 a3 a2 + v2 b1 b0) 0 := by rw [hx, wd2, wd0]; omega
  rw [e3, e2, e1, e0]
  exact plus_hi _ _ _ _ _ _ _ _ _ w (addTwo_any a3 a2 b1 b0 h3 h2 k1 k0)
end Go.Proofs.Ytmelipbanbihdaa
