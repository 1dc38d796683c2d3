/- The document's numbers with a point, one at a time: the walks. -/
import Derived.Test.YtmelipbanbihdaaRefTwo
import Derived.Test.YtmelipbanbihdaaFixNum
namespace Go.Proofs.Ytmelipbanbihdaa
open Go.RowKit

theorem field_got (x0 x1 x2 : Value) (w : World) : (Instr.field 45 (.agg #[x0, x1, x2]) 0).run Try.prog w = .ok (.agg #[x0, x1]) w := by kernel_rfl
theorem ne_two_one (a1 a0 b1 b0 : Int) (W : World) : (Go.binOp .neq 51 (.agg #[.int .u64 a1, .int .u64 a0]) (.agg #[.int .u64 b1, .int .u64 b0])).run Try.prog W = .ok (.bool (!decide (a1 = b1 ∧ a0 = b0))) W := by
  by_cases c : a1 = b1 <;> by_cases d : a0 = b0 <;> simp [go_sem, *]
set_option maxRecDepth 20000 in
set_option maxHeartbeats 8000000 in
theorem rneg_core (h l u s1 s0 r1 : Int) (c : Bool) (e1 : IntKind.u64.wrap h = u) (e2 : IntKind.i64.wrap s1 = r1) (w : World)
    (C1 : ∀ W, Calls Try.prog 38 #[.agg #[.int .u64 0, .int .u64 0], .agg #[.int .u64 u, .int .u64 l]] W fun e w' => e = .returned (.agg #[.int .u64 s1, .int .u64 s0, .bool c]) ∧ Below W.heap.size W w') :
    Calls Try.prog 18 #[.agg #[.int .i64 h, .int .u64 l]] w fun e w' => e = .returned (.agg #[.int .i64 r1, .int .u64 s0]) ∧ Below w.heap.size w w' := by
  have K1 := Lib.hid C1
  clear C1
  have fld := field_sum
  go_enter Try.func18, Try.ntmps18
  go_upto_region 1 with fail
  refine name_world (P := fun W => Code.wp _ _ _ _ W) _ (fun R1 hR1 => ?_)
  have zR1_a : w.heap.size < R1.heap.size := by rw [hR1]; first | omega | (simp <;> omega)
  have yR1_a : w.heap.size < R1.heap.size + 1 := by omega
  have yyR1_a : w.heap.size < R1.heap.size + 1 + 1 := by omega
  have cR1_a_0 : R1.cell? ⟨w.heap.size, 0, none⟩ = some (.int .i64 h) := by rw [hR1]; first | assumption | (simp [go_sem, *]; done)
  have cR1_a_1 : R1.cell? ⟨w.heap.size, 1, none⟩ = some (.int .u64 l) := by rw [hR1]; first | assumption | (simp [go_sem, *]; done)
  have zR1_r : w.heap.size + 1 < R1.heap.size := by rw [hR1]; first | omega | (simp <;> omega)
  have yR1_r : w.heap.size + 1 < R1.heap.size + 1 := by omega
  have yyR1_r : w.heap.size + 1 < R1.heap.size + 1 + 1 := by omega
  have cR1_r_0 : R1.cell? ⟨w.heap.size + 1, 0, none⟩ = some (.int .i64 0) := by rw [hR1]; first | assumption | (simp [go_sem, *]; done)
  have cR1_r_1 : R1.cell? ⟨w.heap.size + 1, 1, none⟩ = some (.int .u64 0) := by rw [hR1]; first | assumption | (simp [go_sem, *]; done)
  have fR1_r : ∀ j, R1.frozen? ⟨w.heap.size + 1, j, none⟩ = false := fun j => by rw [hR1]; first | (simp [go_sem, *]; done) | (simp only [frozen?_alloc_cells]; rw [hfrw0 _ _ (by first | omega | (simp <;> omega))]; simp [frozen?_alloc_cells, World.frozen?]; done) | (simp [frozen?_alloc_cells, World.frozen?, *]; done)
  have lo_r : w.heap.size ≤ w.heap.size + 1 := by omega
  have na_r_a : ¬ (w.heap.size + 1 = w.heap.size) := by omega
  have nb_r_a : ¬ (w.heap.size = w.heap.size + 1) := by omega
  have HBR1 : Hid (Below w.heap.size w R1) := by rw [hR1]; show Below _ _ _; exact (by repeat (first | with_reducible exact Below.refl _ _ | with_reducible exact Hid.out (by assumption) | with_reducible refine Below.setCell ?_ (by first | (simp; done) | omega | (simp <;> omega)) _ | with_reducible refine bl_al ?_ _ | with_reducible apply Below.drew))
  clear hR1
  go_wp2_with fail
  (with_reducible refine (K1.out _).mono ?_); rintro e w1 ⟨rfl, hb⟩; obtain ⟨hclw1, hfrw1⟩ := bcell hb; have zw1_a : w.heap.size < w1.heap.size := (by first | omega | (have hz := hb.size; (try simp at hz); omega)); have yw1_a : w.heap.size < w1.heap.size + 1 := (by omega); have yyw1_a : w.heap.size < w1.heap.size + 1 + 1 := (by omega); have zw1_r : w.heap.size + 1 < w1.heap.size := (by first | omega | (have hz := hb.size; (try simp at hz); omega)); have yw1_r : w.heap.size + 1 < w1.heap.size + 1 := (by omega); have yyw1_r : w.heap.size + 1 < w1.heap.size + 1 + 1 := (by omega); have sxw1_0 : R1.heap.size ≤ w1.heap.size := (by first | omega | (have hz := hb.size; (try simp at hz); omega)); have HBw1 : Hid (Below w.heap.size w w1) := (bl_trans (by repeat (first | with_reducible exact Below.refl _ _ | with_reducible exact Hid.out (by assumption) | with_reducible refine Below.setCell ?_ (by first | (simp; done) | omega | (simp <;> omega)) _ | with_reducible refine bl_al ?_ _ | with_reducible apply Below.drew)) hb); clear hb
  have fw1_r : ∀ j, w1.frozen? ⟨w.heap.size + 1, j, none⟩ = false := fun j => by rw [hfrw1 _ _ (by first | exact zR1_r | (simp; exact zR1_r))]; exact fR1_r j
  go_wp2_with fail
  refine bodyPost_ret (by simp [results, Try.results18, go_sem, *]; try rfl) rfl ?_
  exact ⟨rfl, by repeat (first | with_reducible exact Below.refl _ _ | with_reducible exact Hid.out (by assumption) | with_reducible refine Below.setCell ?_ (by first | (simp; done) | omega | (simp <;> omega)) _ | with_reducible refine bl_al ?_ _ | with_reducible apply Below.drew)⟩
set_option maxRecDepth 20000 in
set_option maxHeartbeats 8000000 in
theorem rmag_neg (h l h' l' u : Int) (hlt : h < 0) (e1 : IntKind.u64.wrap h' = u) (w : World)
    (C1 : ∀ W, Calls Try.prog 18 #[.agg #[.int .i64 h, .int .u64 l]] W fun e w' => e = .returned (.agg #[.int .i64 h', .int .u64 l']) ∧ Below W.heap.size W w') :
    Calls Try.prog 24 #[.agg #[.int .i64 h, .int .u64 l]] w fun e w' => e = .returned (.agg #[.int .u64 u, .int .u64 (l')]) ∧ Below w.heap.size w w' := by
  have K1 := Lib.hid C1
  clear C1
  go_enter Try.func24, Try.ntmps24
  go_upto_region 2 with fail
  refine name_world (P := fun W => Code.wp _ _ _ _ W) _ (fun R1 hR1 => ?_)
  have zR1_a : w.heap.size < R1.heap.size := by rw [hR1]; first | omega | (simp <;> omega)
  have yR1_a : w.heap.size < R1.heap.size + 1 := by omega
  have yyR1_a : w.heap.size < R1.heap.size + 1 + 1 := by omega
  have cR1_a_0 : R1.cell? ⟨w.heap.size, 0, none⟩ = some (.int .i64 h) := by rw [hR1]; first | assumption | (simp [go_sem, *]; done)
  have cR1_a_1 : R1.cell? ⟨w.heap.size, 1, none⟩ = some (.int .u64 l) := by rw [hR1]; first | assumption | (simp [go_sem, *]; done)
  have fR1_a : ∀ j, R1.frozen? ⟨w.heap.size, j, none⟩ = false := fun j => by rw [hR1]; first | (simp [go_sem, *]; done) | (simp only [frozen?_alloc_cells]; rw [hfrw0 _ _ (by first | omega | (simp <;> omega))]; simp [frozen?_alloc_cells, World.frozen?]; done) | (simp [frozen?_alloc_cells, World.frozen?, *]; done)
  have lo_a : w.heap.size ≤ w.heap.size := by omega
  have zR1_r : w.heap.size + 1 < R1.heap.size := by rw [hR1]; first | omega | (simp <;> omega)
  have yR1_r : w.heap.size + 1 < R1.heap.size + 1 := by omega
  have yyR1_r : w.heap.size + 1 < R1.heap.size + 1 + 1 := by omega
  have cR1_r_0 : R1.cell? ⟨w.heap.size + 1, 0, none⟩ = some (.int .u64 0) := by rw [hR1]; first | assumption | (simp [go_sem, *]; done)
  have cR1_r_1 : R1.cell? ⟨w.heap.size + 1, 1, none⟩ = some (.int .u64 0) := by rw [hR1]; first | assumption | (simp [go_sem, *]; done)
  have fR1_r : ∀ j, R1.frozen? ⟨w.heap.size + 1, j, none⟩ = false := fun j => by rw [hR1]; first | (simp [go_sem, *]; done) | (simp only [frozen?_alloc_cells]; rw [hfrw0 _ _ (by first | omega | (simp <;> omega))]; simp [frozen?_alloc_cells, World.frozen?]; done) | (simp [frozen?_alloc_cells, World.frozen?, *]; done)
  have lo_r : w.heap.size ≤ w.heap.size + 1 := by omega
  have na_a_r : ¬ (w.heap.size = w.heap.size + 1) := by omega
  have nb_a_r : ¬ (w.heap.size + 1 = w.heap.size) := by omega
  have na_r_a : ¬ (w.heap.size + 1 = w.heap.size) := by omega
  have nb_r_a : ¬ (w.heap.size = w.heap.size + 1) := by omega
  have HBR1 : Hid (Below w.heap.size w R1) := by rw [hR1]; show Below _ _ _; exact (by repeat (first | with_reducible exact Below.refl _ _ | with_reducible exact Hid.out (by assumption) | with_reducible refine Below.setCell ?_ (by first | (simp; done) | omega | (simp <;> omega)) _ | with_reducible refine bl_al ?_ _ | with_reducible apply Below.drew))
  clear hR1
  go_wp2_with fail
  (with_reducible refine (K1.out _).mono ?_); rintro e w1 ⟨rfl, hb⟩; obtain ⟨hclw1, hfrw1⟩ := bcell hb; have zw1_a : w.heap.size < w1.heap.size := (by first | omega | (have hz := hb.size; (try simp at hz); omega)); have yw1_a : w.heap.size < w1.heap.size + 1 := (by omega); have yyw1_a : w.heap.size < w1.heap.size + 1 + 1 := (by omega); have zw1_r : w.heap.size + 1 < w1.heap.size := (by first | omega | (have hz := hb.size; (try simp at hz); omega)); have yw1_r : w.heap.size + 1 < w1.heap.size + 1 := (by omega); have yyw1_r : w.heap.size + 1 < w1.heap.size + 1 + 1 := (by omega); have sxw1_0 : R1.heap.size ≤ w1.heap.size := (by first | omega | (have hz := hb.size; (try simp at hz); omega)); have HBw1 : Hid (Below w.heap.size w w1) := (bl_trans (by repeat (first | with_reducible exact Below.refl _ _ | with_reducible exact Hid.out (by assumption) | with_reducible refine Below.setCell ?_ (by first | (simp; done) | omega | (simp <;> omega)) _ | with_reducible refine bl_al ?_ _ | with_reducible apply Below.drew)) hb); clear hb
  have fw1_a : ∀ j, w1.frozen? ⟨w.heap.size, j, none⟩ = false := fun j => by rw [hfrw1 _ _ (by first | exact zR1_a | (simp; exact zR1_a))]; exact fR1_a j
  have fw1_r : ∀ j, w1.frozen? ⟨w.heap.size + 1, j, none⟩ = false := fun j => by rw [hfrw1 _ _ (by first | exact zR1_r | (simp; exact zR1_r))]; exact fR1_r j
  go_wp2_with fail
  refine bodyPost_ret (by simp [results, Try.results24, go_sem, *]; try rfl) rfl ?_
  exact ⟨rfl, by repeat (first | with_reducible exact Below.refl _ _ | with_reducible exact Hid.out (by assumption) | with_reducible refine Below.setCell ?_ (by first | (simp; done) | omega | (simp <;> omega)) _ | with_reducible refine bl_al ?_ _ | with_reducible apply Below.drew)⟩
set_option maxRecDepth 20000 in
set_option maxHeartbeats 8000000 in
theorem rmag_pos (h l u : Int) (hlt : ¬ h < 0) (e1 : IntKind.u64.wrap h = u) (w : World) :
    Calls Try.prog 24 #[.agg #[.int .i64 h, .int .u64 l]] w fun e w' => e = .returned (.agg #[.int .u64 u, .int .u64 l]) ∧ Below w.heap.size w w' := by
  go_enter Try.func24, Try.ntmps24
  go_wp2_with fail
  refine bodyPost_ret (by simp [results, Try.results24, go_sem, *]; try rfl) rfl ?_
  exact ⟨rfl, by repeat (first | with_reducible exact Below.refl _ _ | with_reducible exact Hid.out (by assumption) | with_reducible refine Below.setCell ?_ (by first | (simp; done) | omega | (simp <;> omega)) _ | with_reducible refine bl_al ?_ _ | with_reducible apply Below.drew)⟩
set_option maxRecDepth 20000 in
set_option maxHeartbeats 8000000 in
theorem rsigned_hi (m3 m2 m1 m0 : Int) (b : Bool) (q : ∀ W, (Go.binOp .neq 51 (.agg #[.int .u64 m3, .int .u64 m2]) (.agg #[.int .u64 0, .int .u64 0])).run Try.prog W = .ok (.bool true) W) (w : World) :
    Calls Try.prog 42 #[.bool b, .agg #[.int .u64 m3, .int .u64 m2, .int .u64 m1, .int .u64 m0]] w fun e w' => e = .returned (.agg #[.int .i64 0, .int .u64 0, .int .i64 3]) ∧ Below w.heap.size w w' := by
  go_enter Try.func42, Try.ntmps42
  go_wp2_with fail
  refine bodyPost_ret (by simp [results, Try.results42, go_sem, *]; try rfl) rfl ?_
  exact ⟨rfl, by repeat (first | with_reducible exact Below.refl _ _ | with_reducible exact Hid.out (by assumption) | with_reducible refine Below.setCell ?_ (by first | (simp; done) | omega | (simp <;> omega)) _ | with_reducible refine bl_al ?_ _ | with_reducible apply Below.drew)⟩
set_option maxRecDepth 20000 in
set_option maxHeartbeats 8000000 in
theorem rsigned_mid (m3 m2 m1 m0 : Int) (b : Bool) (q : ∀ W, (Go.binOp .neq 51 (.agg #[.int .u64 m3, .int .u64 m2]) (.agg #[.int .u64 0, .int .u64 0])).run Try.prog W = .ok (.bool false) W) (hge : 9223372036854775808 ≤ m1) (w : World) :
    Calls Try.prog 42 #[.bool b, .agg #[.int .u64 m3, .int .u64 m2, .int .u64 m1, .int .u64 m0]] w fun e w' => e = .returned (.agg #[.int .i64 0, .int .u64 0, .int .i64 3]) ∧ Below w.heap.size w w' := by
  go_enter Try.func42, Try.ntmps42
  go_wp2_with fail
  refine bodyPost_ret (by simp [results, Try.results42, go_sem, *]; try rfl) rfl ?_
  exact ⟨rfl, by repeat (first | with_reducible exact Below.refl _ _ | with_reducible exact Hid.out (by assumption) | with_reducible refine Below.setCell ?_ (by first | (simp; done) | omega | (simp <;> omega)) _ | with_reducible refine bl_al ?_ _ | with_reducible apply Below.drew)⟩
set_option maxRecDepth 20000 in
set_option maxHeartbeats 8000000 in
theorem rsigned_pos (m3 m2 m1 m0 r1 : Int) (q : ∀ W, (Go.binOp .neq 51 (.agg #[.int .u64 m3, .int .u64 m2]) (.agg #[.int .u64 0, .int .u64 0])).run Try.prog W = .ok (.bool false) W) (hge : ¬ 9223372036854775808 ≤ m1) (e1 : IntKind.i64.wrap m1 = r1) (w : World) :
    Calls Try.prog 42 #[.bool false, .agg #[.int .u64 m3, .int .u64 m2, .int .u64 m1, .int .u64 m0]] w fun e w' => e = .returned (.agg #[.int .i64 r1, .int .u64 m0, .int .i64 0]) ∧ Below w.heap.size w w' := by
  go_enter Try.func42, Try.ntmps42
  go_wp2_with fail
  refine bodyPost_ret (by simp [results, Try.results42, go_sem, *]; try rfl) rfl ?_
  exact ⟨rfl, by repeat (first | with_reducible exact Below.refl _ _ | with_reducible exact Hid.out (by assumption) | with_reducible refine Below.setCell ?_ (by first | (simp; done) | omega | (simp <;> omega)) _ | with_reducible refine bl_al ?_ _ | with_reducible apply Below.drew)⟩
set_option maxRecDepth 20000 in
set_option maxHeartbeats 8000000 in
theorem rsigned_neg (m3 m2 m1 m0 r1 n1 n0 : Int) (q : ∀ W, (Go.binOp .neq 51 (.agg #[.int .u64 m3, .int .u64 m2]) (.agg #[.int .u64 0, .int .u64 0])).run Try.prog W = .ok (.bool false) W) (hge : ¬ 9223372036854775808 ≤ m1) (e1 : IntKind.i64.wrap m1 = r1) (w : World)
    (C1 : ∀ W, Calls Try.prog 18 #[.agg #[.int .i64 r1, .int .u64 m0]] W fun e w' => e = .returned (.agg #[.int .i64 n1, .int .u64 n0]) ∧ Below W.heap.size W w') :
    Calls Try.prog 42 #[.bool true, .agg #[.int .u64 m3, .int .u64 m2, .int .u64 m1, .int .u64 m0]] w fun e w' => e = .returned (.agg #[.int .i64 n1, .int .u64 n0, .int .i64 0]) ∧ Below w.heap.size w w' := by
  have K1 := Lib.hid C1
  clear C1
  go_enter Try.func42, Try.ntmps42
  go_upto_region 5 with fail
  refine name_world (P := fun W => Code.wp _ _ _ _ W) _ (fun R1 hR1 => ?_)
  have zR1_m : w.heap.size < R1.heap.size := by rw [hR1]; first | omega | (simp <;> omega)
  have yR1_m : w.heap.size < R1.heap.size + 1 := by omega
  have yyR1_m : w.heap.size < R1.heap.size + 1 + 1 := by omega
  have cR1_m_0 : R1.cell? ⟨w.heap.size, 0, none⟩ = some (.int .u64 m3) := by rw [hR1]; first | assumption | (simp [go_sem, *]; done)
  have cR1_m_1 : R1.cell? ⟨w.heap.size, 1, none⟩ = some (.int .u64 m2) := by rw [hR1]; first | assumption | (simp [go_sem, *]; done)
  have cR1_m_2 : R1.cell? ⟨w.heap.size, 2, none⟩ = some (.int .u64 m1) := by rw [hR1]; first | assumption | (simp [go_sem, *]; done)
  have cR1_m_3 : R1.cell? ⟨w.heap.size, 3, none⟩ = some (.int .u64 m0) := by rw [hR1]; first | assumption | (simp [go_sem, *]; done)
  have zR1_r : w.heap.size + 1 < R1.heap.size := by rw [hR1]; first | omega | (simp <;> omega)
  have yR1_r : w.heap.size + 1 < R1.heap.size + 1 := by omega
  have yyR1_r : w.heap.size + 1 < R1.heap.size + 1 + 1 := by omega
  have cR1_r_0 : R1.cell? ⟨w.heap.size + 1, 0, none⟩ = some (.int .i64 0) := by rw [hR1]; first | assumption | (simp [go_sem, *]; done)
  have cR1_r_1 : R1.cell? ⟨w.heap.size + 1, 1, none⟩ = some (.int .u64 0) := by rw [hR1]; first | assumption | (simp [go_sem, *]; done)
  have cR1_r_2 : R1.cell? ⟨w.heap.size + 1, 2, none⟩ = some (.int .i64 0) := by rw [hR1]; first | assumption | (simp [go_sem, *]; done)
  have fR1_r : ∀ j, R1.frozen? ⟨w.heap.size + 1, j, none⟩ = false := fun j => by rw [hR1]; first | (simp [go_sem, *]; done) | (simp only [frozen?_alloc_cells]; rw [hfrw0 _ _ (by first | omega | (simp <;> omega))]; simp [frozen?_alloc_cells, World.frozen?]; done) | (simp [frozen?_alloc_cells, World.frozen?, *]; done)
  have lo_r : w.heap.size ≤ w.heap.size + 1 := by omega
  have zR1_n : w.heap.size + 1 + 1 < R1.heap.size := by rw [hR1]; first | omega | (simp <;> omega)
  have yR1_n : w.heap.size + 1 + 1 < R1.heap.size + 1 := by omega
  have yyR1_n : w.heap.size + 1 + 1 < R1.heap.size + 1 + 1 := by omega
  have cR1_n_0 : R1.cell? ⟨w.heap.size + 1 + 1, 0, none⟩ = some (.int .i64 r1) := by rw [hR1]; first | assumption | (simp [go_sem, *]; done)
  have cR1_n_1 : R1.cell? ⟨w.heap.size + 1 + 1, 1, none⟩ = some (.int .u64 m0) := by rw [hR1]; first | assumption | (simp [go_sem, *]; done)
  have fR1_n : ∀ j, R1.frozen? ⟨w.heap.size + 1 + 1, j, none⟩ = false := fun j => by rw [hR1]; first | (simp [go_sem, *]; done) | (simp only [frozen?_alloc_cells]; rw [hfrw0 _ _ (by first | omega | (simp <;> omega))]; simp [frozen?_alloc_cells, World.frozen?]; done) | (simp [frozen?_alloc_cells, World.frozen?, *]; done)
  have lo_n : w.heap.size ≤ w.heap.size + 1 + 1 := by omega
  have na_r_m : ¬ (w.heap.size + 1 = w.heap.size) := by omega
  have nb_r_m : ¬ (w.heap.size = w.heap.size + 1) := by omega
  have na_r_n : ¬ (w.heap.size + 1 = w.heap.size + 1 + 1) := by omega
  have nb_r_n : ¬ (w.heap.size + 1 + 1 = w.heap.size + 1) := by omega
  have na_n_m : ¬ (w.heap.size + 1 + 1 = w.heap.size) := by omega
  have nb_n_m : ¬ (w.heap.size = w.heap.size + 1 + 1) := by omega
  have na_n_r : ¬ (w.heap.size + 1 + 1 = w.heap.size + 1) := by omega
  have nb_n_r : ¬ (w.heap.size + 1 = w.heap.size + 1 + 1) := by omega
  have HBR1 : Hid (Below w.heap.size w R1) := by rw [hR1]; show Below _ _ _; exact (by repeat (first | with_reducible exact Below.refl _ _ | with_reducible exact Hid.out (by assumption) | with_reducible refine Below.setCell ?_ (by first | (simp; done) | omega | (simp <;> omega)) _ | with_reducible refine bl_al ?_ _ | with_reducible apply Below.drew))
  clear hR1
  go_wp2_with fail
  (with_reducible refine (K1.out _).mono ?_); rintro e w1 ⟨rfl, hb⟩; obtain ⟨hclw1, hfrw1⟩ := bcell hb; have zw1_m : w.heap.size < w1.heap.size := (by first | omega | (have hz := hb.size; (try simp at hz); omega)); have yw1_m : w.heap.size < w1.heap.size + 1 := (by omega); have yyw1_m : w.heap.size < w1.heap.size + 1 + 1 := (by omega); have zw1_r : w.heap.size + 1 < w1.heap.size := (by first | omega | (have hz := hb.size; (try simp at hz); omega)); have yw1_r : w.heap.size + 1 < w1.heap.size + 1 := (by omega); have yyw1_r : w.heap.size + 1 < w1.heap.size + 1 + 1 := (by omega); have zw1_n : w.heap.size + 1 + 1 < w1.heap.size := (by first | omega | (have hz := hb.size; (try simp at hz); omega)); have yw1_n : w.heap.size + 1 + 1 < w1.heap.size + 1 := (by omega); have yyw1_n : w.heap.size + 1 + 1 < w1.heap.size + 1 + 1 := (by omega); have sxw1_0 : R1.heap.size ≤ w1.heap.size := (by first | omega | (have hz := hb.size; (try simp at hz); omega)); have HBw1 : Hid (Below w.heap.size w w1) := (bl_trans (by repeat (first | with_reducible exact Below.refl _ _ | with_reducible exact Hid.out (by assumption) | with_reducible refine Below.setCell ?_ (by first | (simp; done) | omega | (simp <;> omega)) _ | with_reducible refine bl_al ?_ _ | with_reducible apply Below.drew)) hb); clear hb
  have fw1_r : ∀ j, w1.frozen? ⟨w.heap.size + 1, j, none⟩ = false := fun j => by rw [hfrw1 _ _ (by first | exact zR1_r | (simp; exact zR1_r))]; exact fR1_r j
  have fw1_n : ∀ j, w1.frozen? ⟨w.heap.size + 1 + 1, j, none⟩ = false := fun j => by rw [hfrw1 _ _ (by first | exact zR1_n | (simp; exact zR1_n))]; exact fR1_n j
  go_wp2_with fail
  refine bodyPost_ret (by simp [results, Try.results42, go_sem, *]; try rfl) rfl ?_
  exact ⟨rfl, by repeat (first | with_reducible exact Below.refl _ _ | with_reducible exact Hid.out (by assumption) | with_reducible refine Below.setCell ?_ (by first | (simp; done) | omega | (simp <;> omega)) _ | with_reducible refine bl_al ?_ _ | with_reducible apply Below.drew)⟩
set_option maxRecDepth 20000 in
set_option maxHeartbeats 8000000 in
theorem rint_lo (n : Int) (hc : n < -9223372036854775807) (w : World) :
    Calls Try.prog 22 #[.int .i64 n] w fun e w' => e = .returned (.agg #[.int .i64 (-9223372036854775807), .int .u64 0]) ∧ Below w.heap.size w w' := by
  go_enter Try.func22, Try.ntmps22
  go_wp2_with fail
  refine bodyPost_ret (by simp [results, Try.results22, go_sem, *]; try rfl) rfl ?_
  exact ⟨rfl, by repeat (first | with_reducible exact Below.refl _ _ | with_reducible exact Hid.out (by assumption) | with_reducible refine Below.setCell ?_ (by first | (simp; done) | omega | (simp <;> omega)) _ | with_reducible refine bl_al ?_ _ | with_reducible apply Below.drew)⟩
set_option maxRecDepth 20000 in
set_option maxHeartbeats 8000000 in
theorem rint_hi (n : Int) (hc : ¬ n < -9223372036854775807) (w : World) :
    Calls Try.prog 22 #[.int .i64 n] w fun e w' => e = .returned (.agg #[.int .i64 n, .int .u64 0]) ∧ Below w.heap.size w w' := by
  go_enter Try.func22, Try.ntmps22
  go_wp2_with fail
  refine bodyPost_ret (by simp [results, Try.results22, go_sem, *]; try rfl) rfl ?_
  exact ⟨rfl, by repeat (first | with_reducible exact Below.refl _ _ | with_reducible exact Hid.out (by assumption) | with_reducible refine Below.setCell ?_ (by first | (simp; done) | omega | (simp <;> omega)) _ | with_reducible refine bl_al ?_ _ | with_reducible apply Below.drew)⟩
end Go.Proofs.Ytmelipbanbihdaa
